"""Learning a concept without none that somebody has in mind, by asking."""

from conceptworlds.concepts import is_without_none
from conceptworlds.forms import Forms
from conceptworlds.trees import concept_of, nodes_of


class Pruning:
    """A concept that fits, from which names and somes are taken away as long as it fits.

    Its pieces are, node by node of its tree, the edge to the node, with all that is below it, and the names of
    the node. Each piece is left in its turn, or taken away, alone or with the next ones.
    """

    def __init__(self, concept, fits):
        self._nodes = nodes_of(concept)
        self._fits = fits
        self._pieces = []
        self._ends = self._find_ends()
        for at, (parent, _, row) in enumerate(self._nodes):
            if parent is not None:
                self._pieces.append((at, None))
            self._pieces.extend([(at, name) for name in row])
        self._behind = self._find_behind()

    def _find_ends(self):
        """For each node, the number of the first node behind those below it."""
        ends = [at + 1 for at in range(len(self._nodes))]
        for at in reversed(range(1, len(self._nodes))):
            parent = self._nodes[at][0]
            ends[parent] = max(ends[parent], ends[at])
        return ends

    def _find_behind(self):
        """For each piece, the place of the first piece behind all that is taken away with it."""
        firsts, place = [], 0
        for parent, _, row in self._nodes:
            firsts.append(place)
            place = place + len(row) + (0 if parent is None else 1)
        firsts.append(place)
        return [firsts[self._ends[at]] if name is None else place + 1 for place, (at, name) in enumerate(self._pieces)]

    def rest(self):
        """The concept that is left."""
        return concept_of(self._nodes)

    def prune(self, leaps):
        """Takes away what can be taken away, piece by piece, or, with leaps, twice as many each time it succeeds.

        Without leaps each piece is tried at most once; with leaps there are at most as many failures with several
        pieces as successes, so at most twice as many trials as pieces.
        """
        fits, place, many = self._fits, 0, 1
        while place < len(self._pieces):
            last, taken = place, []
            while len(taken) < many and last < len(self._pieces):
                taken.append(self._pieces[last])
                last = self._behind[last]
            nodes = self._nodes_without(taken)
            if fits(concept_of(nodes)):
                self._nodes, place = nodes, last
                many = 2 * many if leaps else 1
            elif len(taken) > 1:
                many = len(taken) // 2
            else:
                place = place + 1

    def _nodes_without(self, taken):
        """The nodes without some pieces, None for those that are gone."""
        nodes = list(self._nodes)
        for at, name in taken:
            if name is None:
                for below in range(at, self._ends[at]):
                    nodes[below] = None
            else:
                parent, role, row = nodes[at]
                nodes[at] = parent, role, tuple([other for other in row if other != name])
        return nodes


def _pruned(concept, lies_within, leaps):
    """A concept within the one in mind, without all that it need not have for that."""
    pruning = Pruning(concept, lies_within)
    pruning.prune(leaps)
    return pruning.rest()


def learn(lies_within, counter):
    """The concept that somebody has in mind.

    What is supposed always lies within it, none at the beginning, so a counterexample does, too, and so does what
    both have in common. Without what it need not have, this is of greater size than what was supposed before,
    and of no greater size than the concept in mind.
    """
    supposed = "none"
    found = counter(supposed)
    while found is not None:
        forms = Forms()
        new = _pruned(forms.concepts[forms.of(found)], lies_within, True)
        if is_without_none(supposed):
            common = forms.common([forms.of(new), forms.of(supposed)])
            new = _pruned(forms.concepts[common], lies_within, False)
        supposed = forms.concepts[forms.of(new)]
        found = counter(supposed)
    return supposed
