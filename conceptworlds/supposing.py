"""What things of data can be, and what they cannot be."""

from conceptworlds.answering import find_impossible, keeps_data, shows_impossible
from conceptworlds.books import keeps_all, need_book
from conceptworlds.datakinds import DataKinds, data_world
from conceptworlds.kindtables import KindTable
from conceptworlds.trees import need_without_none, nodes_of
from conceptworlds.worlds import World, need_thing, need_world


def _put_tree(data, thing, concept):
    """Data with the tree of a concept without none, whose root is a thing."""
    names, edges, many = data.names(), data.edges(), len(data)
    for at, (parent, role, row) in enumerate(nodes_of(concept)):
        if parent is None:
            names[thing] = tuple(sorted(set([*names[thing], *row])))
        else:
            names.append(row)
            edges.append((many + parent - 1 if parent else thing, role, many + at - 1))
    return World(names, sorted(edges))


def supposed(data, thing, concept):
    """Data with a concept without none at a thing."""
    need_world(data)
    need_thing(thing, data)
    need_without_none(concept)
    return _put_tree(data, thing, concept)


def _need_question(book, data, thing, concept):
    """Refuses what is not a book, data, a thing of them, and a concept without none."""
    need_book(book)
    need_world(data)
    need_thing(thing, data)
    need_without_none(concept)


class CanBe:
    """A world that keeps the book, and has the data, in which a thing is in a concept."""

    def __init__(self, world):
        self.world = world

    def __eq__(self, other):
        return isinstance(other, CanBe) and self.world == other.world

    def shows(self, book, data, thing, concept):
        """Whether the world keeps the book, has the data, and its thing is in the concept."""
        _need_question(book, data, thing, concept)
        if not keeps_data(self.world, data) or not keeps_all(self.world.graph(), book):
            return False
        return bool(self.world.graph().holding(concept) >> thing & 1)


class CannotBe:
    """A concept that is nothing by the book, and a thing that is in it, if another thing is in a concept."""

    def __init__(self, thing, concept):
        self.thing = thing
        self.concept = concept

    def __eq__(self, other):
        return isinstance(other, CannotBe) and self.thing == other.thing and self.concept == other.concept

    def shows(self, book, data, thing, concept):
        """Whether the thing of the data with the concept is in what is nothing by the book."""
        _need_question(book, data, thing, concept)
        return shows_impossible(book, _put_tree(data, thing, concept), self.thing, self.concept)


def suppose(book, data, thing, concept):
    """A CanBe, if a thing of data can be in a concept, and otherwise a CannotBe."""
    _need_question(book, data, thing, concept)
    more = _put_tree(data, thing, concept)
    kinds = DataKinds(KindTable(book, []), more)
    if kinds.are_possible():
        return CanBe(data_world(kinds, more.names(), []))
    wrong, told = find_impossible(kinds)
    return CannotBe(wrong, told)
