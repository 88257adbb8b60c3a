"""Kinds: which terms a concept lies within."""

from conceptworlds.books import need_book
from conceptworlds.concepts import need_concept, need_concepts, need_words
from conceptworlds.kindtables import KindTable
from conceptworlds.programs import Program
from conceptworlds.saturating import Saturation
from conceptworlds.smallest import Smallest


def kind_of(book, concept, asked):
    """The kind of a concept by a book and asked concepts, all of which are known to be such."""
    program = Program(book, asked)
    order = program.in_order(list(program.terms))
    subject = program.enter(concept)
    saturation = Saturation(program)
    saturation.start(subject)
    saturation.run()
    return tuple([program.concept_of(term) for term in order if saturation.holds(subject, term)])


def kind(book, concept, *asked):
    """The kind of a concept: the ascending tuple of the terms that it lies within."""
    need_book(book)
    need_concept(concept)
    need_concepts(asked)
    return kind_of(book, concept, asked)


def all_kinds(book, words):
    """All kinds that concepts in told words have, each with a concept of as little size as can be."""
    need_book(book)
    need_words(words)
    names, roles = words
    table = KindTable(book, names)
    smallest = Smallest(roles, table.meet, table.lift)
    smallest.offer(table.of_term("all"), 0, ())
    smallest.offer(table.everything, 0, ("none",))
    for name in names:
        smallest.offer(table.of_term(name), 1, (name,))
    smallest.run()
    order = table.program.in_order(list(table.program.terms))
    found = []
    for mask in smallest.pieces:
        places = tuple([place for place, term in enumerate(order) if mask >> term & 1])
        found.append((places, smallest.chosen(mask)))
    concepts = [table.program.concept_of(term) for term in order]
    found = sorted(found, key=lambda pair: pair[0])
    return [(tuple([concepts[place] for place in places]), told) for places, told in found]
