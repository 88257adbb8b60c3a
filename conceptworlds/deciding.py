"""What a concept lies within by a book, and the world to which it leads."""

from conceptworlds.programs import Program
from conceptworlds.roles import close_rows, list_edges
from conceptworlds.saturating import Saturation
from conceptworlds.worlds import World


def decide(book, concept, asked):
    """The program of a book, of a concept and of asked ones, and its saturation from the concept on."""
    program = Program(book, [concept, *asked])
    saturation = Saturation(program)
    saturation.start(program.table.number(concept))
    saturation.run()
    return program, saturation


def lies_within(book, concept, other):
    """Whether a concept lies within another one by a book."""
    program = Program(book, [concept, other])
    return Saturation(program).reaches(program.table.number(concept), program.table.number(other))


def saturate_all(program):
    """The saturation of a program with all its terms as subjects."""
    saturation = Saturation(program)
    for term in program.terms:
        saturation.start(term)
    saturation.run()
    return saturation


def build_world(program, subjects, found, edges):
    """A world of some subjects, with the names they lie within, and some edges that are closed by the role rules.

    The edges are triples of the place of a subject among these, a role, and another place.
    """
    ahead = {}
    for thing, role, end in edges:
        rows = ahead.setdefault(role, {})
        rows[thing] = rows.get(thing, 0) | 1 << end
    names = [program.names_among(list(found[subject])) for subject in subjects]
    return World(names, list_edges(close_rows(program.roles, ahead, len(subjects))))


def leading_world(program, saturation):
    """A world that keeps the book, whose things are the subjects of a saturation, none of which is nothing.

    A subject is in just those concepts, as a thing, that it lies within.
    """
    subjects = list(saturation.found)
    places = {subject: place for place, subject in enumerate(subjects)}
    edges = []
    for subject in subjects:
        edges.extend([(places[holder], role, places[subject]) for holder, role, _ in saturation.links[subject]])
    return build_world(program, subjects, saturation.found, edges)
