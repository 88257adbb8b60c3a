"""Standings: what is lost of a concept from one book to another one."""

from conceptworlds.books import book_words, need_book, role_rules
from conceptworlds.concepts import is_concept, is_in_words, need_words
from conceptworlds.deciding import decide, leading_world, lies_within, saturate_all
from conceptworlds.errors import BadConcept, NotSame
from conceptworlds.kinds import kind_of
from conceptworlds.programs import Program
from conceptworlds.simulating import takers
from conceptworlds.toldworlds import telling_world


def need_same_roles(first, second):
    """Refuses two books that do not have the same role rules."""
    rules, others = role_rules(first), role_rules(second)
    if [rule for rule in rules if rule not in others] or [rule for rule in others if rule not in rules]:
        raise NotSame("not the same role rules")


def first_world(first, names):
    """The told world of a book with the told names as the asked concepts, or None, if no world keeps the book."""
    if lies_within(first, "all", "none"):
        return None
    program = Program(first, names)
    return telling_world(program, saturate_all(program))[0]


def all_roles(first, second, words):
    """The ascending list of the roles in two books and told words."""
    found = [*book_words(first)[1], *book_words(second)[1], *words[1]]
    return sorted(set(found))


def places(book, concept, world, words, roles):
    """The third and the fifth item of the standing of a concept, here for any book.

    The things of the world that leads from the concept are in just the concepts that they lie within.
    So the concept lies within all told concepts that have a thing, if this is taken in by the first thing.
    """
    if world is None:
        return (), ()
    many = len(world)
    program, saturation = decide(book, concept, [])
    if saturation.is_dead(program.table.number(concept)):
        return tuple(range(many)), tuple([(role, thing) for role in roles for thing in range(many)])
    graph = leading_world(program, saturation).graph()
    masks = takers(world.graph(), graph, words)
    things = tuple([thing for thing in range(many) if masks[thing] & 1])
    ends = [(role, graph.targets(role, 0)) for role in roles]
    return things, tuple([(role, thing) for role, end in ends for thing in range(many) if masks[thing] & end])


def _standing(first, second, words, concept):
    """The standing of a concept, for arguments that are known to be right."""
    world, roles = first_world(first, words[0]), all_roles(first, second, words)
    things, pairs = places(first, concept, world, words, roles)
    more, others = places(second, concept, world, words, roles)
    kind, other = kind_of(first, concept, words[0]), kind_of(second, concept, words[0])
    return kind, other, things, more, pairs, others


def _need_arguments(first, second, words, concept):
    """Refuses what is not two books with the same role rules, told words, and a concept in them."""
    need_book(first)
    need_book(second)
    need_same_roles(first, second)
    need_words(words)
    if not is_concept(concept) or not is_in_words(concept, words):
        raise BadConcept("not a concept in told words")


def standing(first, second, words, concept):
    """The standing of a concept in told words."""
    _need_arguments(first, second, words, concept)
    return _standing(first, second, words, concept)


def has_loss(first, second, words, concept):
    """Whether a concept in told words has a loss."""
    _need_arguments(first, second, words, concept)
    found = _standing(first, second, words, concept)
    for name in ("none", *words[0]):
        if name in found[0] and name not in found[1]:
            return True
    known = {pair: True for pair in found[5]}
    lost = [pair for pair in found[4] if pair[0] in words[1] and pair not in known]
    return bool(lost)
