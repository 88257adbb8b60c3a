"""The terms of a book and asked concepts, and the told world."""

from conceptworlds.books import need_book
from conceptworlds.concepts import need_concepts
from conceptworlds.deciding import build_world, lies_within, saturate_all
from conceptworlds.errors import NoWorld
from conceptworlds.programs import Program


def telling_world(program, saturation):
    """The told world of a program in which not all is nothing, and the ascending list of its terms."""
    things = program.in_order([term for term in program.terms if not saturation.is_dead(term)])
    places = {term: place for place, term in enumerate(things)}
    edges = []
    for term in things:
        for some in saturation.found[term]:
            role = program.table.roles[some]
            if role is not None:
                edges.append((places[term], role, places[program.table.within[some][0]]))
    return build_world(program, things, saturation.found, edges), [program.concept_of(term) for term in things]


def terms(book, *asked):
    """The ascending list of the terms of a book and asked concepts."""
    need_book(book)
    need_concepts(asked)
    program = Program(book, asked)
    return [program.concept_of(term) for term in program.in_order(list(program.terms))]


def told_world(book, *asked):
    """The told world of a book and asked concepts, and the list of the terms that are its things."""
    need_book(book)
    if lies_within(book, "all", "none"):
        raise NoWorld("no world keeps the book")
    need_concepts(asked)
    program = Program(book, asked)
    return telling_world(program, saturate_all(program))
