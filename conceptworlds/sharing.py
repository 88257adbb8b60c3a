"""Worlds in which one thing is in just the concepts that several concepts, or things of data, lie within."""

from conceptworlds.books import need_book
from conceptworlds.concepts import is_ascending, need_concepts
from conceptworlds.datakinds import DataKinds, data_world
from conceptworlds.deciding import lies_within, saturate_all
from conceptworlds.errors import BadConcept, BadThing, IsNothing, NotPossible
from conceptworlds.joining import part_behind, shared_world
from conceptworlds.kindtables import KindTable
from conceptworlds.programs import Program
from conceptworlds.toldworlds import telling_world
from conceptworlds.worlds import is_thing, need_thing, need_world


def behind(world, thing):
    """The part of a world behind a thing, and the number of the thing in it."""
    need_world(world)
    need_thing(thing, world)
    part, order = part_behind(world, thing)
    return part, order.index(thing)


def shared(book, *concepts):
    """The shared world of concepts, and the shared thing."""
    need_book(book)
    if not concepts:
        raise BadConcept("no concepts")
    need_concepts(concepts)
    told = [concept for concept in concepts if not lies_within(book, concept, "none")]
    if not told:
        raise IsNothing("all concepts are nothing by the book")
    worlds, things = [], []
    for concept in told:
        program = Program(book, [concept])
        world, terms = telling_world(program, saturate_all(program))
        worlds.append(world)
        things.append(terms.index(concept))
    return shared_world(worlds, things)


def _possible_kinds(book, data):
    """The kinds of the things of data, which must be possible."""
    kinds = DataKinds(KindTable(book, []), data)
    if not kinds.are_possible():
        raise NotPossible("the data are not possible")
    return kinds


def special(book, data, thing):
    """A world that keeps a book, with a thing that is in just the concepts to which a thing of data is an answer."""
    need_book(book)
    need_world(data)
    need_thing(thing, data)
    return data_world(_possible_kinds(book, data), data.names(), []), thing


def world_of_data(book, data):
    """The told world of what is known to be data, which must be possible."""
    kinds = _possible_kinds(book, data)
    table, program = kinds.table, kinds.table.program
    terms = program.in_order([term for term in program.terms if not table.is_dead(table.of_number(term))])
    return data_world(kinds, data.names(), terms)


def told_data(book, data):
    """The told world of data: their things and the terms of the book, with what is certain of them."""
    need_book(book)
    need_world(data)
    return world_of_data(book, data)


def are_things(things, data):
    """Whether a value is an ascending tuple of things of data."""
    if not isinstance(things, tuple):
        return False
    for thing in things:
        if not is_thing(thing, len(data)):
            return False
    return is_ascending(things)


def need_good_things(things, data):
    """Refuses what is not an ascending tuple of one or more things of data."""
    if not are_things(things, data) or not things:
        raise BadThing("not an ascending tuple of one or more things")


def shared_things(book, data, things):
    """The shared world and the shared thing of things of data."""
    need_book(book)
    need_world(data)
    need_good_things(things, data)
    told = world_of_data(book, data)
    return shared_world([told for _ in things], things)
