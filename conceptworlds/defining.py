"""Concepts in told words that are equal to a concept, or lie between two concepts, or why there are none."""

from conceptworlds.books import need_book
from conceptworlds.concepts import depth_of, need_concept, need_words
from conceptworlds.deciding import lies_within
from conceptworlds.errors import NotFollows
from conceptworlds.kindtables import KindTable
from conceptworlds.stepping import Seeing, are_steady, are_told
from conceptworlds.toldworlds import telling_world
from conceptworlds.worlds import told_part


class Middle:
    """The told world of a book, two concepts and told names, and what lies between the concepts in told words.

    The first concept lies within the other one. What lies between has the thing of the first concept, so it is
    enough to know how much of this thing can be seen in told words. If the first concept is nothing, there is no
    such thing, and "none" lies between.
    """

    def __init__(self, book, concept, other, words):
        self._table = KindTable(book, [concept, other, *words[0]])
        self._goal = self._table.bit_of(other)
        self.is_nothing = self._table.has(concept, "none")
        self.depth = 0
        if not self.is_nothing:
            world, terms = telling_world(self._table.program, self._table.saturation)
            self._thing = terms.index(concept)
            self._seen = told_part(world, words)
            self._seeing = Seeing(self._table, self._seen)
            self.depth = self._seeing.depth_of(self._thing, self._goal)

    def told_concept(self):
        """A concept in told words that lies between the two, of the least depth."""
        return "none" if self.is_nothing else self._seeing.concept_of(self._thing, self._goal)

    def steady_concepts(self):
        """For each thing, a concept in told words with the kind of all that can be seen from it."""
        return self._seeing.steady_concepts()

    def are_short(self, concepts):
        """Whether concepts have the kinds of their steps, and that of the first one does not lie within the other."""
        if self.is_nothing or not are_steady(self._table, self._seen, concepts):
            return False
        return not self._table.of_concept(concepts[self._thing]) & self._goal


def _need_said(book, concept, words):
    """Refuses what is not a book, a concept and told words."""
    need_book(book)
    need_concept(concept)
    need_words(words)


def _need_between(book, concept, other, words):
    """Refuses what is not a book, two concepts of which the first lies within the other one, and told words."""
    need_book(book)
    need_concept(concept)
    need_concept(other)
    need_words(words)
    if not lies_within(book, concept, other):
        raise NotFollows("the first concept does not lie within the other one")


def _shows_between(book, concept, other, words, found):
    """Whether the concept of evidence is in told words, lies between two concepts, and has the least depth."""
    if not are_told([found.concept], words) or found.depth != depth_of(found.concept):
        return False
    if not lies_within(book, concept, found.concept) or not lies_within(book, found.concept, other):
        return False
    return Middle(book, concept, other, words).depth == found.depth


def _shows_none_between(book, concept, other, words, found):
    """Whether the concepts of evidence are in told words, and show that none of these lies between two concepts."""
    return are_told(found.concepts, words) and Middle(book, concept, other, words).are_short(found.concepts)


class Said:
    """A concept in told words that is equal to a concept, of the least depth."""

    def __init__(self, concept, depth):
        self.concept = concept
        self.depth = depth

    def __eq__(self, other):
        return isinstance(other, Said) and self.concept == other.concept and self.depth == other.depth

    def shows(self, book, concept, words):
        """Whether the concept is equal to the other one, in told words, and has the least depth."""
        _need_said(book, concept, words)
        return _shows_between(book, concept, concept, words, self)


class Unsaid:
    """Concepts in told words, one for each thing of the told world, by which a concept is not said in them."""

    def __init__(self, concepts):
        self.concepts = list(concepts)

    def __eq__(self, other):
        return isinstance(other, Unsaid) and self.concepts == other.concepts

    def shows(self, book, concept, words):
        """Whether the concepts have the kinds of their told steps, and that of the concept is not within it."""
        _need_said(book, concept, words)
        return _shows_none_between(book, concept, concept, words, self)


class Between:
    """A concept in told words between two concepts, of the least depth."""

    def __init__(self, concept, depth):
        self.concept = concept
        self.depth = depth

    def __eq__(self, other):
        return isinstance(other, Between) and self.concept == other.concept and self.depth == other.depth

    def shows(self, book, concept, other, words):
        """Whether the concept lies between the two, is in told words, and has the least depth."""
        _need_between(book, concept, other, words)
        return _shows_between(book, concept, other, words, self)


class NoneBetween:
    """Concepts in told words, one for each thing of the told world, by which none lies between two concepts."""

    def __init__(self, concepts):
        self.concepts = list(concepts)

    def __eq__(self, other):
        return isinstance(other, NoneBetween) and self.concepts == other.concepts

    def shows(self, book, concept, other, words):
        """Whether the concepts have the kinds of their told steps, and that of the first one is not in the other."""
        _need_between(book, concept, other, words)
        return _shows_none_between(book, concept, other, words, self)


def judge_said(book, concept, words):
    """A Said, if a concept is said in told words, and otherwise an Unsaid."""
    _need_said(book, concept, words)
    middle = Middle(book, concept, concept, words)
    if middle.depth is None:
        return Unsaid(middle.steady_concepts())
    return Said(middle.told_concept(), middle.depth)


def is_said(book, concept, words):
    """Whether a concept is said in told words."""
    _need_said(book, concept, words)
    return Middle(book, concept, concept, words).depth is not None


def between(book, concept, other, words):
    """A Between for two concepts of which the first lies within the other one, or a NoneBetween."""
    _need_between(book, concept, other, words)
    middle = Middle(book, concept, other, words)
    if middle.depth is None:
        return NoneBetween(middle.steady_concepts())
    return Between(middle.told_concept(), middle.depth)
