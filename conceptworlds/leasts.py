"""The least concept of a thing, or why there is none."""

from conceptworlds.books import need_book, need_keeping
from conceptworlds.concepts import depth_of
from conceptworlds.errors import BadNumber, TooLarge
from conceptworlds.forms import Forms
from conceptworlds.stepping import Seeing, are_steady, are_told
from conceptworlds.viewkinds import ViewKinds
from conceptworlds.views import need_words_or_none, view_roles, words_for
from conceptworlds.worlds import is_number, need_thing, need_world, told_part

DEEPEST_LEAST = 20
MOST_NODES = 2000


def _need_question(book, world, thing, told_words):
    """Refuses what is not a book, a world that keeps it, a thing of the world, and told words or None."""
    need_book(book)
    need_keeping(book, world)
    need_thing(thing, world)
    need_words_or_none(told_words)


def _table_and_part(book, world, told_words):
    """The views, as kinds, for a book, a world and told words, and the world with only its told names and edges."""
    words = words_for(book, world, told_words)
    return ViewKinds(book, words, world, view_roles(book, world, words)), told_part(world, words)


class Least:
    """A least concept of a thing, and the least depth of such a concept."""

    def __init__(self, concept, depth):
        self.concept = concept
        self.depth = depth

    def __eq__(self, other):
        return isinstance(other, Least) and self.concept == other.concept and self.depth == other.depth

    def shows(self, book, world, thing, *, told_words=None):
        """Whether the concept is a least one of the thing, and has the least depth."""
        _need_question(book, world, thing, told_words)
        if not are_told([self.concept], words_for(book, world, told_words)):
            return False
        if not world.graph().holding(self.concept) >> thing & 1 or self.depth != depth_of(self.concept):
            return False
        table, part = _table_and_part(book, world, told_words)
        goal = table.bit_of_thing(thing)
        return bool(table.of_concept(self.concept) & goal) and Seeing(table, part).depth_of(thing, goal) == self.depth


class Endless:
    """Concepts, one for each thing, from which no step leads on, so that no concept is a least one of a thing."""

    def __init__(self, concepts):
        self.concepts = list(concepts)

    def __eq__(self, other):
        return isinstance(other, Endless) and self.concepts == other.concepts

    def shows(self, book, world, thing, *, told_words=None):
        """Whether each concept has the view of its step, and the one of the thing does not say all of the thing."""
        _need_question(book, world, thing, told_words)
        if told_words is not None and not are_told(self.concepts, told_words):
            return False
        table, part = _table_and_part(book, world, told_words)
        if not are_steady(table, part, self.concepts):
            return False
        return not table.of_concept(self.concepts[thing]) & table.bit_of_thing(thing)


def least_of(book, world, thing, *, told_words=None):
    """A Least for a thing of a world that keeps a book, or an Endless."""
    _need_question(book, world, thing, told_words)
    table, part = _table_and_part(book, world, told_words)
    seeing, goal = Seeing(table, part), table.bit_of_thing(thing)
    depth = seeing.depth_of(thing, goal)
    if depth is None:
        return Endless(seeing.steady_concepts())
    return Least(seeing.concept_of(thing, goal), depth)


class Unfolding:
    """The unfoldings of the things of a world, down to any depth."""

    def __init__(self, world):
        self._rows = world.names()
        self._steps = [[] for _ in range(len(world))]
        for thing, role, end in world.edges():
            self._steps[thing].append((role, end))
        self._found = {}
        self.forms = Forms()

    def many_nodes(self, thing, depth):
        """How many nodes the unfolding of a thing has, down to a depth."""
        many = [1 for _ in self._steps]
        for _ in range(depth):
            many = [1 + sum([many[end] for _, end in row]) for row in self._steps]
        return many[thing]

    def form_of(self, thing, depth):
        """The number of the reduced form of the unfolding of a thing, down to a depth."""
        key = thing, depth
        if key not in self._found:
            children = []
            if depth:
                children = [(role, self.form_of(end, depth - 1)) for role, end in self._steps[thing]]
            self._found[key] = self.forms.make(self._rows[thing], children)
        return self._found[key]


def least_in_depth(world, thing, depth):
    """The reduced form of the least concept of a thing of a depth at most."""
    need_world(world)
    need_thing(thing, world)
    if not is_number(depth) or not 0 <= depth <= DEEPEST_LEAST:
        raise BadNumber("not a depth from 0 to 20")
    unfolding = Unfolding(world)
    if unfolding.many_nodes(thing, depth) > MOST_NODES:
        raise TooLarge("the unfolding has more than 2000 nodes")
    return unfolding.forms.concepts[unfolding.form_of(thing, depth)]
