"""Plain questions that give the certain answers to a target on all data, or a ring, by which no finite list does."""

from conceptworlds.asking import QuestionSearch
from conceptworlds.books import need_book
from conceptworlds.concepts import is_in_words, is_without_none, words_in
from conceptworlds.deciding import lies_within
from conceptworlds.forms import Forms, numbers_apart
from conceptworlds.kindtables import KindTable
from conceptworlds.marks import MarkTable
from conceptworlds.trees import need_without_none


def _need_question(book, target):
    """Refuses what is not a book and a concept without none."""
    need_book(book)
    need_without_none(target)


class Exact:
    """Questions that answer exactly, and concepts by which all concepts are answered."""

    def __init__(self, questions, concepts):
        self.questions = list(questions)
        self.concepts = list(concepts)

    def __eq__(self, other):
        return isinstance(other, Exact) and self.questions == other.questions and self.concepts == other.concepts

    def shows(self, book, target):
        """Whether the questions and the concepts are as described.

        All concepts without none are made of all, names, ands and somes, and what is made of what is nothing is
        nothing. So the concepts are closed exactly if they have all marks that there are.
        """
        _need_question(book, target)
        if numbers_apart(Forms(), self.questions) is None:
            return False
        for question in self.questions:
            if lies_within(book, question, "none") or not lies_within(book, question, target):
                return False
        search = QuestionSearch(book, target)
        for concept in self.concepts:
            if not is_without_none(concept) or not is_in_words(concept, search.known_words):
                return False
        marks = MarkTable(search.table, target, self.questions)
        known = {marks.of(concept): True for concept in self.concepts}
        if None in known or [mark for mark in known if not marks.is_answered(mark)]:
            return False
        needed = marks.all_marks(search.known_words)
        mark = needed.advance()
        while mark is not None and mark in known:
            mark = needed.advance()
        return mark is None


def _along(table, kind, way):
    """The kind of what a concept with a kind becomes along a way."""
    for role, side in way:
        kind = table.meet(table.of_concept(side), table.lift(role, kind))
    return kind


class Ring:
    """Ways along which a concept stays within a target as often as one likes, while all does not."""

    def __init__(self, concept, low, ring, high):
        self.concept = concept
        self.low = list(low)
        self.ring = list(ring)
        self.high = list(high)

    def __eq__(self, other):
        if not isinstance(other, Ring) or self.concept != other.concept or self.low != other.low:
            return False
        return self.ring == other.ring and self.high == other.high

    def shows(self, book, target):
        """Whether the concept and the ways are as described."""
        _need_question(book, target)
        told = [self.concept, *[side for _, side in [*self.low, *self.ring, *self.high]]]
        if not self.ring or [concept for concept in told if not is_without_none(concept)]:
            return False
        table = KindTable(book, [target, *words_in(*told)[0]])
        upper = _along(table, table.of_concept(self.concept), self.low)
        lower = _along(table, table.of_term("all"), self.low)
        if _along(table, upper, self.ring) != upper or _along(table, lower, self.ring) != lower:
            return False
        last, goal = _along(table, upper, self.high), table.bit_of(target)
        if table.is_dead(last) or not last & goal:
            return False
        return not _along(table, lower, self.high) & goal


def questions(book, target):
    """An Exact for a book and a target, or a Ring."""
    _need_question(book, target)
    search = QuestionSearch(book, target)
    search.run()
    if search.ring is not None:
        return Ring(*search.ring)
    return Exact(search.list_questions(), search.concepts)
