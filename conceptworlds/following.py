"""Whether a concept lies within another one: a derivation, or a world that refutes it."""

from conceptworlds.books import keeps_all, need_book
from conceptworlds.concepts import inner, need_concept
from conceptworlds.deciding import decide, leading_world, lies_within
from conceptworlds.deriving import Derivation
from conceptworlds.worlds import is_thing


def _is_some(concept):
    """Whether a concept is a some."""
    return not isinstance(concept, str) and concept[0] == "some"


def _are_somes(first, second):
    """Whether both of two concepts are somes."""
    return _is_some(first) and _is_some(second)


def _says(numbers, before, pairs):
    """Whether the steps with some numbers are among those before, and say just some pairs of concepts."""
    if len(numbers) != len(pairs):
        return False
    for number, pair in zip(numbers, pairs):
        if not is_thing(number, len(before)) or before[number][:2] != pair:
            return False
    return True


def _is_same(book, step, before):
    return step[0] == step[1] and not step[3]


def _is_all(book, step, before):
    return step[1] == "all" and not step[3]


def _is_none(book, step, before):
    return step[0] == "none" and not step[3]


def _is_part(book, step, before):
    first, second, _, numbers = step
    return not _is_some(first) and second in inner(first) and not numbers


def _is_and(book, step, before):
    first, second, _, numbers = step
    pairs = [(first, part) for part in inner(second)]
    return bool(pairs) and not _is_some(second) and _says(numbers, before, pairs)


def _is_then(book, step, before):
    first, second, _, numbers = step
    if len(numbers) != 2 or not is_thing(numbers[0], len(before)):
        return False
    middle = before[numbers[0]][1]
    return _says(numbers, before, [(first, middle), (middle, second)])


def _is_by_rule(book, step, before):
    first, second, _, numbers = step
    return len(numbers) == 1 and is_thing(numbers[0], len(book)) and book[numbers[0]] == ("within", first, second)


def _is_by_some(book, step, before):
    first, second, _, numbers = step
    return _are_somes(first, second) and first[1] == second[1] and _says(numbers, before, [(first[2], second[2])])


def _is_below(book, step, before):
    first, second, _, numbers = step
    same = _are_somes(first, second) and first[2] == second[2]
    return same and ("below", first[1], second[1]) in book and not numbers


def _is_passing(book, step, before):
    first, second, _, numbers = step
    passes = _is_some(second) and ("passes", second[1]) in book
    return passes and first == ("some", second[1], second) and not numbers


def _is_itself(book, step, before):
    first, second, _, numbers = step
    return _is_some(second) and second[2] == first and ("itself", second[1]) in book and not numbers


def _is_empty(book, step, before):
    first, second, _, numbers = step
    return _is_some(first) and first[2] == "none" and second == "none" and not numbers


# What makes a step right, by its word; each is given the book, the step, and the steps before it.
CHECKS = {
    "same": _is_same, "all": _is_all, "none": _is_none, "part": _is_part, "and": _is_and, "then": _is_then,
    "rule": _is_by_rule, "some": _is_by_some, "below": _is_below, "passes": _is_passing, "itself": _is_itself,
    "empty": _is_empty,
}


def _is_right(book, step, before):
    """Whether a step follows by its word and its numbers."""
    if step[2] not in CHECKS:
        return False
    check = CHECKS[step[2]]
    return check(book, step, before)


def _need_question(book, concept, other):
    """Refuses what is not a book and two concepts."""
    need_book(book)
    need_concept(concept)
    need_concept(other)


class Follows:
    """A derivation of a concept's lying within another one."""

    def __init__(self, steps):
        self.steps = list(steps)

    def __eq__(self, other):
        return isinstance(other, Follows) and self.steps == other.steps

    def shows(self, book, concept, other):
        """Whether the steps are a derivation that ends with this step."""
        _need_question(book, concept, other)
        before = []
        for step in self.steps:
            if not _is_right(book, step, before):
                return False
            before.append(step)
        return bool(before) and before[-1][:2] == (concept, other)


class Fails:
    """A world that keeps the book, with a thing that is in a concept and not in another one."""

    def __init__(self, world, thing):
        self.world = world
        self.thing = thing

    def __eq__(self, other):
        return isinstance(other, Fails) and self.world == other.world and self.thing == other.thing

    def shows(self, book, concept, other):
        """Whether the world keeps the book, and its thing is in the concept and not in the other one."""
        _need_question(book, concept, other)
        if not is_thing(self.thing, len(self.world)):
            return False
        graph = self.world.graph()
        if not graph.holding(concept) >> self.thing & 1 or graph.holding(other) >> self.thing & 1:
            return False
        return keeps_all(graph, book)


def judge(book, concept, other):
    """A Follows, if the concept lies within the other one by the book, and otherwise a Fails."""
    _need_question(book, concept, other)
    program, saturation = decide(book, concept, [other])
    subject, goal = program.table.number(concept), program.table.number(other)
    if saturation.holds(subject, goal):
        return Follows(Derivation(program, saturation).prove(subject, goal))
    return Fails(leading_world(program, saturation), 0)


def follows(book, concept, other):
    """Whether the concept lies within the other one by the book."""
    _need_question(book, concept, other)
    return lies_within(book, concept, other)
