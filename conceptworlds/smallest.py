"""Concepts of as little size as can be, one for each value that concepts have."""

from heapq import heappop, heappush

from conceptworlds.concepts import conjoin


class Smallest:
    """For each value that a concept has, the pieces of a concept of as little size as can be that has it.

    The value of an and and of a some must depend only on those of their parts: meet gives it for two
    values, lift for a role and a value; None is for what is not wanted. A concept is the and of its pieces,
    names and somes. Values come in the order of their sizes; it is enough to put one piece at a time behind
    the others. If the sizes need not be the least ones, pieces that other ones make up are not put behind others:
    that is thrifty, and saves much time.
    """

    def __init__(self, roles, meet, lift, thrifty=False):
        self._roles = roles
        self._meet = meet
        self._lift = lift
        self._thrifty = thrifty
        self._queue = []
        self._turn = 0
        self._offered = {}
        self._sizes = {}
        self._fresh = None
        self.pieces = {}
        self.singles = []

    def offer(self, value, size, pieces):
        """Offers a concept of a size, as the tuple of its pieces, for its value."""
        if value is not None and (value not in self._offered or size < self._offered[value]):
            self._offered[value] = size
            self._turn = self._turn + 1
            heappush(self._queue, (size, self._turn, value, pieces))

    def run(self):
        """Finds the values of all concepts that can be made of those that are offered."""
        while self.advance() is not None:
            pass

    def advance(self):
        """The next value, for which pieces are found now; None, if there is none left."""
        if self._fresh is not None:
            self._spread(self._fresh)
            self._fresh = None
        while self._queue and self._fresh is None:
            size, _, value, pieces = heappop(self._queue)
            if value not in self.pieces:
                self.pieces[value] = pieces
                self._sizes[value] = size
                self._fresh = value
        return self._fresh

    def chosen(self, value):
        """The concept of a value."""
        return conjoin(self.pieces[value])

    def cost(self, value):
        """The size of the concept of a value."""
        return self._sizes[value]

    def _spread(self, value):
        """Offers what can be made of the concept of a new value, and of those before."""
        meet, lift = self._meet, self._lift
        for role in self._roles:
            some = "some", role, self.chosen(value)
            self.offer(lift(role, value), self._sizes[value] + 1, (some,))
        others = self.singles
        if len(self.pieces[value]) == 1 and not (self._thrifty and self._is_made_up(value)):
            self.singles.append(value)
            others = list(self.pieces)
        for other in others:
            size = self._sizes[value] + self._sizes[other]
            self.offer(meet(value, other), size, (*self.pieces[value], *self.pieces[other]))

    def _is_made_up(self, value):
        """Whether a value is that of the and of the single pieces before it that its concept lies within."""
        meet, found = self._meet, None
        for single in self.singles:
            if meet(single, value) == value:
                found = single if found is None else meet(found, single)
        return found == value
