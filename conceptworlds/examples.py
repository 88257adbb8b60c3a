"""Concepts to which all good things of data are certain answers, and no bad one is, or why there are none."""

from conceptworlds.books import need_book
from conceptworlds.concepts import conjoin, depth_of, is_in_words, is_without_none, need_words
from conceptworlds.errors import BadThing
from conceptworlds.graphs import lies_in, mask_of
from conceptworlds.parting import Parting
from conceptworlds.sharing import are_things, need_good_things, shared_part, world_of_data
from conceptworlds.taking import TakenIn
from conceptworlds.worlds import need_world


def _need_question(book, data, good, bad, words):
    """Refuses what is not a book, data that are possible, good and bad things, and told words.

    Returns the told world of the data.
    """
    need_book(book)
    need_world(data)
    need_good_things(good, data)
    if not are_things(bad, data):
        raise BadThing("not an ascending tuple of things")
    need_words(words)
    return world_of_data(book, data)


def _partings(told, good, bad, words):
    """For each bad thing, how the shared thing of the good ones comes apart from it."""
    world, thing = shared_part(told, good)
    return [Parting(world, thing, told, other, words) for other in bad]


class Separated:
    """A concept to which all good things are certain answers, and no bad one is, of the least depth."""

    def __init__(self, concept, depth):
        self.concept = concept
        self.depth = depth

    def __eq__(self, other):
        return isinstance(other, Separated) and self.concept == other.concept and self.depth == other.depth

    def shows(self, book, data, good, bad, words):
        """Whether the concept tells the good things from the bad ones, in told words, and has the least depth."""
        told = _need_question(book, data, good, bad, words)
        if not is_in_words(self.concept, words) or not is_without_none(self.concept):
            return False
        held = told.graph().holding(self.concept)
        if not lies_in(mask_of(good), held) or held & mask_of(bad) or self.depth != depth_of(self.concept):
            return False
        return self.depth == max([0, *[parting.level() for parting in _partings(told, good, bad, words)]])


class Mixed:
    """A bad thing by which the shared thing of the good ones is taken in."""

    def __init__(self, thing, pairs):
        self.thing = thing
        self.pairs = list(pairs)

    def __eq__(self, other):
        return isinstance(other, Mixed) and self.thing == other.thing and self.pairs == other.pairs

    def shows(self, book, data, good, bad, words):
        """Whether the thing is bad, and the pairs show that it takes in the shared thing of the good ones."""
        told = _need_question(book, data, good, bad, words)
        if self.thing not in bad:
            return False
        world, thing = shared_part(told, good)
        return TakenIn(self.pairs).shows(world, thing, told, self.thing, words)


def _needed_pieces(pieces, bad):
    """Pairs of a set of things and of a piece, without those without which the others have no bad thing, too."""
    kept = list(pieces)
    for piece in pieces:
        rest, left = [other for other in kept if other[1] != piece[1]], bad
        for held, _ in rest:
            left = left & held
        if not left:
            kept = rest
    return kept


def separate(book, data, good, bad, words):
    """A Separated for good and bad things of data, or a Mixed."""
    told = _need_question(book, data, good, bad, words)
    partings = _partings(told, good, bad, words)
    for thing, parting in zip(bad, partings):
        if parting.level() is None:
            return Mixed(thing, parting.together())
    levels = sorted([(-parting.level(), at) for at, parting in enumerate(partings)])
    pieces, left = [], mask_of(bad)
    for _, at in levels:
        if left >> bad[at] & 1:
            piece = partings[at].refutation()
            pieces.append((told.graph().holding(piece), piece))
            left = left & pieces[-1][0]
    concepts = [piece for _, piece in _needed_pieces(pieces, mask_of(bad))]
    return Separated(conjoin(concepts), max([0, *[-level for level, _ in levels]]))
