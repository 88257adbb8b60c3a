"""Views of concepts, and the steps of things along lists of concepts."""

from conceptworlds.books import book_words, need_book, need_keeping
from conceptworlds.concepts import conjoin, is_concept, is_told, need_concept, text_of
from conceptworlds.errors import BadConcept, BadWords
from conceptworlds.kinds import kind_of
from conceptworlds.standings import places
from conceptworlds.worlds import need_thing, need_world, told_part


def need_words_or_none(told_words):
    """Refuses what is neither told words nor None."""
    if told_words is not None and not is_told(told_words):
        raise BadWords("neither told words nor None")


def words_for(book, world, told_words):
    """Told words; for None the names of a world, and the roles of the world and of a book."""
    if told_words is not None:
        return told_words
    names, roles = world.words()
    return names, tuple(sorted(set([*roles, *book_words(book)[1]])))


def view_roles(book, world, words):
    """The ascending list of the roles that views tell of."""
    return sorted(set([*words[1], *world.words()[1], *book_words(book)[1]]))


def view(book, world, concept, *, told_words=None):
    """The view of a concept: its kind, the things that it says all of, and the pairs of a role and such a thing."""
    need_book(book)
    need_keeping(book, world)
    need_concept(concept)
    need_words_or_none(told_words)
    words = words_for(book, world, told_words)
    things, pairs = places(book, concept, world, words, view_roles(book, world, words))
    return kind_of(book, concept, words[0]), things, pairs


def _need_list(concepts, many):
    """Refuses what is not a list or tuple of so many concepts."""
    if not isinstance(concepts, (list, tuple)) or len(concepts) != many:
        raise BadConcept("not a list of as many concepts as there are things")
    for concept in concepts:
        if not is_concept(concept):
            raise BadConcept("one of the list is not a concept")


def step(world, thing, concepts, *, told_words=None):
    """The step of a thing along a list with a concept for each thing."""
    need_world(world)
    need_thing(thing, world)
    _need_list(concepts, len(world))
    need_words_or_none(told_words)
    part = told_part(world, world.words() if told_words is None else told_words)
    pieces, known = list(part.names()[thing]), {}
    for one, role, end in part.edges():
        if one == thing:
            key = role, text_of(concepts[end])
            if key not in known:
                known[key] = True
                pieces.append(("some", role, concepts[end]))
    return conjoin(pieces)
