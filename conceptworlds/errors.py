"""The errors of the package, one class for each kind of refusal."""


class ConceptError(ValueError):
    """An argument that is refused."""


class BadConcept(ConceptError):
    """Not a concept, or not one of the kind that is asked for."""


class BadWords(ConceptError):
    """Not told words, or not a word."""


class BadWorld(ConceptError):
    """Not a world."""


class BadThing(ConceptError):
    """Not the number of a thing of the world."""


class BadBook(ConceptError):
    """Not a book; index is that of the first item that is no rule, None if it is no list and no tuple."""

    def __init__(self, index):
        super().__init__("not a book")
        self.index = index


class BadPrices(ConceptError):
    """Not prices for what has to have one."""


class NotSame(ConceptError):
    """Two books do not have the same role rules."""


class NoWorld(ConceptError):
    """No world keeps the book."""


class IsNothing(ConceptError):
    """A concept that must not be nothing is nothing."""


class BadText(ConceptError):
    """Not the text of a concept."""


class BadIndex(ConceptError):
    """Not the index of a rule that is asked for."""


class BadNumber(ConceptError):
    """Not a number in its limits."""


class TooLarge(ConceptError):
    """A limit of the document is passed."""


class NotFollows(ConceptError):
    """A concept does not lie within another one."""


class NotPossible(ConceptError):
    """The data are not possible for the book."""


class NotWithin(ConceptError):
    """A concept does not lie plainly within another one."""
