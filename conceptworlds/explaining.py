"""Concepts without none by which things of data are what they certainly are, of as little depth as can be."""

from conceptworlds.concepts import conjoin
from conceptworlds.graphs import bits, lies_in


class Explaining:
    """Concepts of things of data that lie within some terms, a set of them, the goal.

    A demand is a pair of a thing and a goal. It is met at the least depth at which the thing is seen to be in the
    goal, by as few of its names and edges as needed, and each edge leads to a demand of less depth.
    """

    def __init__(self, kinds):
        self._kinds = kinds
        self._table = kinds.table
        self._rows = kinds.data.names()
        self._plans = {}
        self._concepts = {}

    def explain(self, thing, goal):
        """A concept without none, of the least depth, in which a thing is and that lies within a goal."""
        fresh, waiting = [], [(thing, goal)]
        while waiting:
            demand = waiting.pop()
            if demand not in self._plans:
                depth = self._kinds.depth_of(*demand)
                self._plans[demand] = self._plan(*demand, depth)
                fresh.append((depth, *demand))
                waiting.extend([step[1:] for step in self._plans[demand][1]])
        for _, one, own in sorted(fresh):
            names, steps = self._plans[one, own]
            somes = [("some", role, self._concepts[end, asked]) for role, end, asked in steps]
            self._concepts[one, own] = conjoin([*names, *somes])
        return self._concepts[thing, goal]

    def _plan(self, thing, goal, depth):
        """Names of a thing, and triples of a role, an end and a goal for it, that are enough for a goal."""
        pieces = []
        if depth:
            for role, end in self._kinds.steps[thing]:
                pieces.append((self._table.lift(role, self._kinds.kind_at(end, depth - 1)), (role, end)))
        pieces.extend([(self._table.of_name(name), name) for name in self._rows[thing]])
        kept = self._without_needless(pieces, self._table.of_term("all"), goal)
        names = [told for _, told in kept if isinstance(told, str)]
        edges = [told for _, told in kept if not isinstance(told, str)]
        given = self._table.of_term("all")
        for name in names:
            given = given | self._table.of_name(name)
        return names, self._asked_of(edges, given, goal, depth)

    def _asked_of(self, edges, given, goal, depth):
        """For each of some edges the goal that is needed of its end, as triples of a role, an end and a goal."""
        steps = []
        wanted = [self._wanted(role, end, depth) for role, end in edges]
        for at, (role, end) in enumerate(edges):
            others = given
            for rows in wanted[:at] + wanted[at + 1:]:
                for mask, _ in rows:
                    others = others | mask
            wanted[at] = self._without_needless(wanted[at], others, goal)
            asked = 0
            for _, term in wanted[at]:
                asked = asked | 1 << term
            steps.append((role, end, asked))
        return steps

    def _wanted(self, role, end, depth):
        """What an edge gives for each term that its end is seen to be in, those of the greatest depths first."""
        rows = []
        for term in bits(self._kinds.kind_at(end, depth - 1)):
            mask = self._table.lift_of(role, term)
            if mask:
                rows.append((-self._kinds.depth_of(end, 1 << term), term, mask))
        return [(mask, term) for _, term, mask in sorted(rows)]

    def _without_needless(self, pieces, given, goal):
        """Those of some pieces, which begin with what they give, without which a goal would not be reached.

        They are tried in their order; what is given besides is a set of terms.
        """
        behind = [0]
        for mask, _ in pieces[::-1]:
            behind.append(behind[-1] | mask)
        kept, found = [], given
        for at, piece in enumerate(pieces):
            if not lies_in(goal, self._table.close(found | behind[len(pieces) - 1 - at])):
                kept.append(piece)
                found = found | piece[0]
        return kept
