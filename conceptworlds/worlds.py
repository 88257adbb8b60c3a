"""Finite worlds, and their products."""

from conceptworlds.concepts import are_words, is_ascending, is_word, need_concept, told_words
from conceptworlds.errors import BadThing, BadWorld
from conceptworlds.graphs import Graph, bits


def is_number(thing):
    """Whether a value is an integer; booleans are none."""
    return isinstance(thing, int) and not isinstance(thing, bool)


def is_thing(thing, many):
    """Whether a value is the number of one of so many things."""
    return is_number(thing) and 0 <= thing < many


def is_edge(thing, many):
    """Whether a value is a triple of a thing, a role and a thing, of so many things."""
    if not isinstance(thing, tuple) or len(thing) != 3:
        return False
    return is_thing(thing[0], many) and is_word(thing[1]) and is_thing(thing[2], many)


def _are_names(names):
    """Whether a value is a list or a tuple of one or more ascending tuples of names."""
    if not isinstance(names, (list, tuple)) or not names:
        return False
    for row in names:
        if not are_words(row):
            return False
    return True


def _are_edges(edges, many):
    """Whether a value is an ascending list or tuple of edges among so many things."""
    if not isinstance(edges, (list, tuple)):
        return False
    for edge in edges:
        if not is_edge(edge, many):
            return False
    return is_ascending(edges)


class World:
    """A finite world: the names of each thing, and the edges."""

    def __init__(self, names, edges):
        if not _are_names(names):
            raise BadWorld("names are not a list of one or more ascending tuples of names")
        if not _are_edges(edges, len(names)):
            raise BadWorld("edges are not an ascending list of edges")
        self._names = list(names)
        self._edges = list(edges)
        self._known = {edge: True for edge in edges}
        self._graph = Graph(names, edges)

    @property
    def size(self):
        """The number of things."""
        return len(self._names)

    def names(self):
        """A new list of the tuples of names of the things."""
        return list(self._names)

    def edges(self):
        """A new list of the edges."""
        return list(self._edges)

    def graph(self):
        """The world, arranged for looking up sets of things; for use within the package."""
        return self._graph

    def things_in(self, concept):
        """The ascending list of the things that are in a concept."""
        need_concept(concept)
        return bits(self._graph.holding(concept))

    def words(self):
        """The names, and the roles of the edges, as told words."""
        names = {name: True for row in self._names for name in row}
        roles = {edge[1]: True for edge in self._edges}
        return told_words(names, roles)

    def __len__(self):
        return len(self._names)

    def __iter__(self):
        return iter(self._names)

    def __contains__(self, edge):
        return is_edge(edge, len(self._names)) and edge in self._known

    def __eq__(self, other):
        return isinstance(other, World) and self._names == other._names and self._edges == other._edges


def need_world(thing):
    """Refuses what is no world."""
    if not isinstance(thing, World):
        raise BadWorld("not a world")


def need_thing(thing, world):
    """Refuses what is not the number of a thing of a world."""
    if not is_thing(thing, len(world)):
        raise BadThing("not a thing of the world")


def told_part(world, words):
    """A world with only its told names and its edges by told roles."""
    names = [tuple([name for name in row if name in words[0]]) for row in world.names()]
    return World(names, [edge for edge in world.edges() if edge[1] in words[1]])


def pair_edges(ahead, others_ahead, many):
    """The edges of the product of two worlds of which the second one has so many things."""
    found = []
    for role in ahead:
        for thing, targets in ahead[role].items():
            for other, more in others_ahead.get(role, {}).items():
                pair = thing * many + other
                ends = bits(more)
                found.extend([(pair, role, end * many + last) for end in bits(targets) for last in ends])
    return sorted(found)


def product(first, second):
    """The product of two worlds."""
    need_world(first)
    need_world(second)
    names = [tuple([name for name in row if name in more]) for row in first.names() for more in second.names()]
    return World(names, pair_edges(first.graph().ahead, second.graph().ahead, len(second)))
