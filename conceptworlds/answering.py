"""Certain answers: what things of data are in all worlds that keep a book."""

from conceptworlds.books import keeps_all, need_book
from conceptworlds.concepts import depth_of, is_without_none, need_concept
from conceptworlds.datakinds import DataKinds, data_world
from conceptworlds.deciding import lies_within
from conceptworlds.explaining import Explaining
from conceptworlds.graphs import bits, lies_in
from conceptworlds.kindtables import KindTable
from conceptworlds.worlds import World, is_thing, need_world


def _need_question(book, data, concept):
    """Refuses what is not a book, data, and a concept."""
    need_book(book)
    need_world(data)
    need_concept(concept)


def keeps_data(world, data):
    """Whether the first things of a world are those of data, with their names and edges."""
    if not isinstance(world, World) or len(world) < len(data):
        return False
    rows = world.names()
    for thing, row in enumerate(data.names()):
        if [name for name in row if name not in rows[thing]]:
            return False
    for role, rows in data.graph().ahead.items():
        for thing, ends in rows.items():
            if not lies_in(ends, world.graph().targets(role, thing)):
                return False
    return True


class Answers:
    """The certain answers to a concept, with reasons, and a world in which no other things of the data are in it."""

    def __init__(self, things, concepts, depths, world):
        self.things = list(things)
        self.concepts = list(concepts)
        self.depths = list(depths)
        self.world = world

    def __eq__(self, other):
        if not isinstance(other, Answers) or self.things != other.things or self.concepts != other.concepts:
            return False
        return self.depths == other.depths and self.world == other.world

    def shows(self, book, data, concept):
        """Whether these are the certain answers, with right concepts of the least depths, and a right world."""
        _need_question(book, data, concept)
        if not keeps_data(self.world, data) or not keeps_all(self.world.graph(), book):
            return False
        held = self.world.graph().holding(concept) & data.graph().everything
        if list(self.things) != bits(held) or not len(self.things) == len(self.concepts) == len(self.depths):
            return False
        table = KindTable(book, [concept])
        kinds = DataKinds(table, data)
        for thing, told, depth in zip(self.things, self.concepts, self.depths):
            if not is_without_none(told) or not data.graph().holding(told) >> thing & 1:
                return False
            if depth != depth_of(told) or depth != kinds.depth_of(thing, table.bit_of(concept)):
                return False
            if not lies_within(book, told, concept):
                return False
        return True


class Impossible:
    """A concept that is nothing by a book, and a thing of data that is in it."""

    def __init__(self, thing, concept):
        self.thing = thing
        self.concept = concept

    def __eq__(self, other):
        return isinstance(other, Impossible) and self.thing == other.thing and self.concept == other.concept

    def shows(self, book, data, concept):
        """Whether the thing of the data is in the concept, which is nothing by the book."""
        _need_question(book, data, concept)
        return shows_impossible(book, data, self.thing, self.concept)


def shows_impossible(book, data, thing, concept):
    """Whether a concept without none is nothing by a book, and a number is that of a thing of data that is in it."""
    if not is_thing(thing, len(data)) or not is_without_none(concept):
        return False
    return bool(data.graph().holding(concept) >> thing & 1) and lies_within(book, concept, "none")


def find_impossible(kinds):
    """A thing of data that are not possible, and a concept that shows it, of as little depth as can be."""
    goal = kinds.table.bit_of("none")
    depths = [(kinds.depth_of(thing, goal), thing) for thing in range(len(kinds.data))]
    thing = min([pair for pair in depths if pair[0] is not None])[1]
    return thing, Explaining(kinds).explain(thing, goal)


def answer(book, data, concept):
    """An Answers, if the data are possible, and otherwise an Impossible."""
    _need_question(book, data, concept)
    kinds = DataKinds(KindTable(book, [concept]), data)
    if not kinds.are_possible():
        thing, told = find_impossible(kinds)
        return Impossible(thing, told)
    goal, explaining = kinds.table.bit_of(concept), Explaining(kinds)
    things = [thing for thing in range(len(data)) if lies_in(goal, kinds.kind(thing))]
    concepts = [explaining.explain(thing, goal) for thing in things]
    depths = [kinds.depth_of(thing, goal) for thing in things]
    return Answers(things, concepts, depths, data_world(kinds, data.names(), []))


def is_possible(book, data):
    """Whether data are possible for a book."""
    need_book(book)
    need_world(data)
    return DataKinds(KindTable(book, []), data).are_possible()
