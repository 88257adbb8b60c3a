"""The classes of alike things of a world, and the leanest world with the same things' concepts."""

from conceptworlds.simulating import takers
from conceptworlds.worlds import World, need_world


def _alike(masks):
    """The classes of alike things, for the set of the things by which each thing is taken in.

    Each thing is taken in by itself, and what is taken in by a taker of a thing takes in this, too;
    so things are alike exactly if they are taken in by the same things.
    """
    found = {}
    for thing, mask in enumerate(masks):
        found.setdefault(mask, []).append(thing)
    return list(found.values())


def classes(world):
    """The classes of alike things, in the order of their least things."""
    need_world(world)
    return _alike(takers(world.graph(), world.graph(), world.words()))


def leanest(world):
    """The leanest world of a world."""
    need_world(world)
    graph, rows = world.graph(), world.names()
    masks = takers(graph, graph, world.words())
    groups = _alike(masks)
    edges = []
    for at, group in enumerate(groups):
        for role in graph.ahead:
            ends = 0
            for thing in group:
                ends = ends | graph.targets(role, thing)
            edges.extend([(at, role, to) for to, other in enumerate(groups) if masks[other[0]] & ends])
    return World([rows[group[0]] for group in groups], sorted(edges))
