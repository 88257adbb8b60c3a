"""Concepts of as little size as can be, one for each value that concepts have."""

from heapq import heappop, heappush

from conceptworlds.concepts import conjoin


class Smallest:
    """For each value that a concept has, the pieces of a concept of as little size as can be that has it.

    The value of an and and of a some must depend only on those of their parts: meet gives it for two
    values, lift for a role and a value. A concept is the and of its pieces, names and somes. Values come
    in the order of their sizes; it is enough to put one piece at a time behind the others.
    """

    def __init__(self, roles, meet, lift):
        self._roles = roles
        self._meet = meet
        self._lift = lift
        self._queue = []
        self._turn = 0
        self._offered = {}
        self._sizes = {}
        self.pieces = {}
        self.singles = []

    def offer(self, value, size, pieces):
        """Offers a concept of a size, as the tuple of its pieces, for its value."""
        if value not in self._offered or size < self._offered[value]:
            self._offered[value] = size
            self._turn = self._turn + 1
            heappush(self._queue, (size, self._turn, value, pieces))

    def run(self):
        """Finds the values of all concepts that can be made of those that are offered."""
        while self._queue:
            size, _, value, pieces = heappop(self._queue)
            if value not in self.pieces:
                self.pieces[value] = pieces
                self._sizes[value] = size
                self._spread(value)

    def chosen(self, value):
        """The concept of a value."""
        return conjoin(self.pieces[value])

    def _spread(self, value):
        """Offers what can be made of the concept of a new value, and of those before."""
        meet, lift = self._meet, self._lift
        for role in self._roles:
            some = "some", role, self.chosen(value)
            self.offer(lift(role, value), self._sizes[value] + 1, (some,))
        others = self.singles
        if len(self.pieces[value]) == 1:
            self.singles.append(value)
            others = list(self.pieces)
        for other in others:
            size = self._sizes[value] + self._sizes[other]
            self.offer(meet(value, other), size, (*self.pieces[value], *self.pieces[other]))
