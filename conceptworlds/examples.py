"""Concepts to which all good things of data are certain answers, and no bad one is, or why there are none."""

from conceptworlds.books import need_book
from conceptworlds.concepts import conjoin, depth_of, is_in_words, is_without_none, need_words
from conceptworlds.errors import BadThing
from conceptworlds.graphs import lies_in, mask_of
from conceptworlds.joining import shared_classes, shared_world
from conceptworlds.parting import Parting
from conceptworlds.sharing import are_things, need_good_things, world_of_data
from conceptworlds.simulating import found_pairs, takers
from conceptworlds.taking import TakenIn
from conceptworlds.worlds import need_world


def _need_question(book, data, good, bad, words):
    """Refuses what is not a book, data that are possible, good and bad things, and told words.

    Returns the told world of the data.
    """
    need_book(book)
    need_world(data)
    need_good_things(good, data)
    if not are_things(bad, data):
        raise BadThing("not an ascending tuple of things")
    need_words(words)
    return world_of_data(book, data)


def _mixed(world, place, told, bad, words):
    """A Mixed for the shared thing of the good things, and for a bad one by which it is taken in."""
    masks = takers(world.graph(), told.graph(), words)
    return Mixed(bad, found_pairs(world.graph(), told.graph(), masks, (place, bad), words[1]))


class Separated:
    """A concept to which all good things are certain answers, and no bad one is, of the least depth."""

    def __init__(self, concept, depth):
        self.concept = concept
        self.depth = depth

    def __eq__(self, other):
        return isinstance(other, Separated) and self.concept == other.concept and self.depth == other.depth

    def shows(self, book, data, good, bad, words):
        """Whether the concept tells the good things from the bad ones, in told words, and has the least depth."""
        told = _need_question(book, data, good, bad, words)
        if not is_in_words(self.concept, words) or not is_without_none(self.concept):
            return False
        held = told.graph().holding(self.concept)
        if not lies_in(mask_of(good), held) or held & mask_of(bad) or self.depth != depth_of(self.concept):
            return False
        lean, chosen, place = shared_classes([told for _ in good], good)
        thin = lean.thin_part(chosen)
        levels = [Parting(thin, place, told, other, words).level() for other in bad]
        return self.depth == max([0, *levels])


class Mixed:
    """A bad thing by which the shared thing of the good ones is taken in."""

    def __init__(self, thing, pairs):
        self.thing = thing
        self.pairs = list(pairs)

    def __eq__(self, other):
        return isinstance(other, Mixed) and self.thing == other.thing and self.pairs == other.pairs

    def shows(self, book, data, good, bad, words):
        """Whether the thing is bad, and the pairs show that it takes in the shared thing of the good ones."""
        told = _need_question(book, data, good, bad, words)
        if self.thing not in bad:
            return False
        world, thing = shared_world([told for _ in good], good)
        return TakenIn(self.pairs).shows(world, thing, told, self.thing, words)


def _needed_pieces(pieces, bad):
    """Pairs of a set of things and of a piece, without those without which the others have no bad thing, too."""
    kept = list(pieces)
    for piece in pieces:
        rest, left = [other for other in kept if other[1] != piece[1]], bad
        for held, _ in rest:
            left = left & held
        if not left:
            kept = rest
    return kept


def separate(book, data, good, bad, words):
    """A Separated for good and bad things of data, or a Mixed."""
    told = _need_question(book, data, good, bad, words)
    lean, chosen, place = shared_classes([told for _ in good], good)
    thin = lean.thin_part(chosen)
    masks = takers(thin.graph(), told.graph(), words)
    for thing in bad:
        if masks[place] >> thing & 1:
            return _mixed(lean.leanest_part(chosen), place, told, thing, words)
    return _separated(told, bad, [Parting(thin, place, told, thing, words) for thing in bad])


def _separated(told, bad, partings):
    """A Separated, for how what the good things share comes apart from each of the bad things."""
    levels = sorted([(-parting.level(), at) for at, parting in enumerate(partings)])
    pieces, left = [], mask_of(bad)
    for _, at in levels:
        if left >> bad[at] & 1:
            piece = partings[at].refutation()
            pieces.append((told.graph().holding(piece), piece))
            left = left & pieces[-1][0]
    concepts = [piece for _, piece in _needed_pieces(pieces, mask_of(bad))]
    return Separated(conjoin(concepts), max([0, *[-level for level, _ in levels]]))
