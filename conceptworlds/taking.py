"""Things that are taken in by other things, or come apart from them by a concept."""

from conceptworlds.concepts import depth_of, is_ascending, is_in_words, is_without_none, need_words
from conceptworlds.graphs import bits
from conceptworlds.parting import Parting
from conceptworlds.worlds import is_thing, need_thing, need_world


def _need_places(world, thing, other_world, other_thing, words):
    """Refuses what is not two worlds, a thing of each one, and told words."""
    need_world(world)
    need_world(other_world)
    need_thing(thing, world)
    need_thing(other_thing, other_world)
    need_words(words)


def _names_match(pairs, rows, others, names):
    """Whether the told names of the first thing of each pair are names of the second one."""
    for thing, other in pairs:
        for name in rows[thing]:
            if name in names and name not in others[other]:
                return False
    return True


def _edges_match(pairs, graph, other_graph, roles):
    """Whether each edge by a told role of the first thing of a pair leads to a pair along one of the second one."""
    taking = {}
    for thing, other in pairs:
        taking[thing] = taking.get(thing, 0) | 1 << other
    for thing, other in pairs:
        for role in roles:
            ends = other_graph.targets(role, other)
            for end in bits(graph.targets(role, thing)):
                if not ends & taking.get(end, 0):
                    return False
    return True


class TakenIn:
    """Pairs that show that a thing is taken in by another one."""

    def __init__(self, pairs):
        self.pairs = list(pairs)

    def __eq__(self, other):
        return isinstance(other, TakenIn) and self.pairs == other.pairs

    def shows(self, world, thing, other_world, other_thing, words):
        """Whether the pairs are such a set, in ascending order."""
        _need_places(world, thing, other_world, other_thing, words)
        for one, other in self.pairs:
            if not is_thing(one, len(world)) or not is_thing(other, len(other_world)):
                return False
        if not is_ascending(self.pairs) or (thing, other_thing) not in self.pairs:
            return False
        if not _names_match(self.pairs, world.names(), other_world.names(), words[0]):
            return False
        return _edges_match(self.pairs, world.graph(), other_world.graph(), words[1])


class Apart:
    """A concept that has a thing and does not have another one, of as little depth as can be."""

    def __init__(self, concept):
        self.concept = concept

    def __eq__(self, other):
        return isinstance(other, Apart) and self.concept == other.concept

    def shows(self, world, thing, other_world, other_thing, words):
        """Whether the concept is in told words, tells the things apart, and has the least depth."""
        _need_places(world, thing, other_world, other_thing, words)
        if not is_in_words(self.concept, words) or not is_without_none(self.concept):
            return False
        if not world.graph().holding(self.concept) >> thing & 1:
            return False
        if other_world.graph().holding(self.concept) >> other_thing & 1:
            return False
        return depth_of(self.concept) == Parting(world, thing, other_world, other_thing, words).level()


def compare(world, thing, other_world, other_thing, words):
    """A TakenIn, if the thing is taken in by the other one, and otherwise an Apart."""
    _need_places(world, thing, other_world, other_thing, words)
    parting = Parting(world, thing, other_world, other_thing, words)
    if parting.level() is None:
        return TakenIn(parting.together())
    return Apart(parting.refutation())
