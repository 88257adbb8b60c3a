"""The order of names by a book."""

from conceptworlds.books import need_book
from conceptworlds.concepts import are_words
from conceptworlds.errors import BadWords
from conceptworlds.graphs import bits, mask_of
from conceptworlds.kindtables import KindTable


def _upper_sets(book, names):
    """For each of some names, the set of the places of those that it lies within."""
    table = KindTable(book, names)
    return [mask_of([at for at, other in enumerate(names) if table.has(name, other)]) for name in names]


def _without_equal(upper, mask):
    """The set of names that a name lies within, without those that are equal to it."""
    return mask & ~mask_of([at for at in bits(mask) if upper[at] == mask])


def name_order(book, names):
    """A dict from names to the ascending tuples of those of them that are directly above.

    A name that another one lies within is equal to it exactly if it lies within the same names.
    """
    need_book(book)
    if not are_words(names):
        raise BadWords("not an ascending tuple of names")
    upper, found = _upper_sets(book, names), {}
    above = [_without_equal(upper, mask) for mask in upper]
    for name, mask in zip(names, above):
        further = 0
        for at in bits(mask):
            further = further | above[at]
        found[name] = tuple([names[at] for at in bits(mask & ~further)])
    return found
