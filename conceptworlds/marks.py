"""The marks of concepts: their kinds, and the parts of questions that they are plainly within."""

from conceptworlds.kindtables import KindTable
from conceptworlds.smallest import Smallest
from conceptworlds.tables import value_of


class MarkTable:
    """The marks of concepts without none whose names are terms, as pairs of kinds by a book and by the empty one.

    There is no mark, None, of what is nothing by the book.
    """

    def __init__(self, table, target, questions):
        self._table = table
        self._goal = table.bit_of(target)
        self._plain = KindTable([], questions)
        self._questions = 0
        for question in questions:
            self._questions = self._questions | self._plain.bit_of(question)

    def of(self, concept):
        """The mark of a concept without none."""
        return value_of(self, concept)

    def of_name(self, name):
        """The mark of all, or of a name."""
        return self._make(self._table.of_term(name), self._plain.of_name(name))

    def meet(self, one, other):
        """The mark of the and of two concepts, of their marks."""
        if one is None or other is None:
            return None
        return self._make(self._table.meet(one[0], other[0]), self._plain.meet(one[1], other[1]))

    def lift(self, role, mark):
        """The mark of the some with a role and a concept, of the mark of this."""
        if mark is None:
            return None
        return self._make(self._table.lift(role, mark[0]), self._plain.lift(role, mark[1]))

    def is_answered(self, mark):
        """Whether concepts with a mark lie within the target exactly if they are plainly within a question."""
        return bool(mark[0] & self._goal) == bool(mark[1] & self._questions)

    def all_marks(self, words):
        """A search for the marks of all concepts in told words without none that are not nothing."""
        found = Smallest(words[1], self.meet, self.lift, True)
        found.offer(self.of("all"), 0, ())
        for name in words[0]:
            found.offer(self.of(name), 1, (name,))
        return found

    def _make(self, kind, plain):
        """The mark with two kinds."""
        return None if self._table.is_dead(kind) else (kind, plain)
