"""The least depth of a loss between two books, found from what the first book asks for, goal by goal."""

from conceptworlds.concepts import conjoin
from conceptworlds.graphs import lies_in
from conceptworlds.leastviews import LeastViews


def _says_less(one, other):
    """Whether a view by the second book says no more than another one."""
    return lies_in(one[0], other[0]) and lies_in(one[1], other[1])


class LossSearch:
    """A search, depth by depth, for a concept in told words with a loss.

    If a concept has a loss, and no concept of less depth has one, then by the first book it lies within a term
    of which the second one does not say as much: that it is none or a told name, or a pair of the term. (What
    the first book has by the things of the concept itself, the second one has, too, or they have the loss.)
    So for each term it is enough to know those concepts that lie within it by the first book of which
    the second book says least. What is nothing by the second book has no loss, and nothing made of it has.
    """

    def __init__(self, table, words):
        self._table = table
        self._words = words
        self._second = table.second
        self._least = LeastViews(table.first.kinds, table.second.meet, _says_less)
        self.depth = 0
        self.concept = None

    def run(self):
        """Finds a concept with a loss, of the least depth that there is, or none."""
        numbers = self._table.first.kinds.program.table
        self._put(numbers.number("all"), self._second.of_name("all"), ())
        for name in self._words[0]:
            self._put(numbers.number(name), self._second.of_name(name), (name,))
        start = 0
        while self.concept is None and start < len(self._least.noted):
            self._least.close(start)
            rows, start = self._least.least_from(start), len(self._least.noted)
            self._look(rows)
            if self.concept is None:
                self.depth = self.depth + 1
                for term, view, pieces in rows:
                    self._rise(term, view, pieces)

    def _put(self, term, view, pieces):
        """Notes a concept that lies within a term, if it is not nothing by the second book."""
        if view != self._second.dead:
            self._least.put(term, view, pieces)

    def _look(self, rows):
        """Takes the first concept of some rows that has a loss, if there is one."""
        for term, view, pieces in rows:
            if self.concept is None and self._table.asks_more(term, view):
                self.concept = conjoin(pieces)

    def _rise(self, term, view, pieces):
        """Notes the somes with a concept that lies within a term."""
        for role in self._words[1]:
            for conclusion, _ in self._table.first.kinds.program.lifts(role, term):
                self._put(conclusion, self._second.lift(role, view), (("some", role, conjoin(pieces)),))
