"""Standings of concepts between two books, made of those of their parts."""

from conceptworlds.smallest import Smallest
from conceptworlds.standings import all_roles, first_world
from conceptworlds.viewtables import ViewTable


class StandingTable:
    """The standings of concepts in told words, as pairs of their views by the two books."""

    def __init__(self, first, second, words):
        self._words = words
        self.world = first_world(first, words[0])
        roles = all_roles(first, second, words)
        self.first = ViewTable(first, words, self.world, roles)
        self.second = ViewTable(second, words, self.world, roles)
        self._told_pairs = 0
        for role in words[1]:
            self._told_pairs = self._told_pairs | self.first.pairs_of(role)
        self._told_bits = [(name, self.first.kinds.bit_of(name), self.second.kinds.bit_of(name))
                      for name in ("none", *words[0])]

    def of_name(self, name):
        """The standing of all, or of a told name."""
        return self.first.of_name(name), self.second.of_name(name)

    def meet(self, one, other):
        """The standing of the and of two concepts, of their standings."""
        return self.first.meet(one[0], other[0]), self.second.meet(one[1], other[1])

    def lift(self, role, standing):
        """The standing of the some with a role and a concept, of the standing of this."""
        return self.first.lift(role, standing[0]), self.second.lift(role, standing[1])

    def of(self, concept):
        """The standing of a concept in told words."""
        return self.first.of(concept), self.second.of(concept)

    def lost_names(self, standing):
        """Those of none and the told names that a concept lies within by the first book, not by the second one."""
        kind, other = standing[0][0], standing[1][0]
        return [name for name, bit, more in self._told_bits if kind & bit and not other & more]

    def lost_pairs(self, standing):
        """The pairs of a told role and a thing that a concept has by the first book, not by the second one."""
        return self.first.list_pairs(standing[0][1] & ~standing[1][1] & self._told_pairs)

    def has_loss(self, standing):
        """Whether concepts of a standing have a loss."""
        if standing[0][1] & ~standing[1][1] & self._told_pairs:
            return True
        return bool(self.lost_names(standing))

    def asks_more(self, term, view):
        """Whether a term of the first book is told, or has told pairs, that a view by the second book has not."""
        if self.first.pairs_of_term(term) & ~view[1] & self._told_pairs:
            return True
        return bool([name for name, bit, more in self._told_bits if bit >> term & 1 and not view[0] & more])

    def all_standings(self):
        """A search for the standings of all concepts in told words without none."""
        found = Smallest(self._words[1], self.meet, self.lift, True)
        found.offer(self.of_name("all"), 0, ())
        for name in self._words[0]:
            found.offer(self.of_name(name), 1, (name,))
        return found
