"""The classes of alike things of a world, and the leanest world with the same things' concepts."""

from conceptworlds.simulating import takers
from conceptworlds.worlds import World, need_world


def alike(graph):
    """The classes of alike things of a world, and for each thing the set of the things by which it is taken in.

    The world is given as a graph. Each thing is taken in by itself, and what is taken in by a taker of a thing takes
    in this, too; so things are alike exactly if they are taken in by the same things.
    """
    masks, found = takers(graph, graph, (list(graph.named), list(graph.ahead))), {}
    for thing, mask in enumerate(masks):
        found.setdefault(mask, []).append(thing)
    return list(found.values()), masks


def classes(world):
    """The classes of alike things, in the order of their least things."""
    need_world(world)
    return alike(world.graph())[0]


def leanest(world):
    """The leanest world of a world."""
    need_world(world)
    graph, rows, edges = world.graph(), world.names(), []
    groups, masks = alike(graph)
    for at, group in enumerate(groups):
        for role in graph.ahead:
            ends = 0
            for thing in group:
                ends = ends | graph.targets(role, thing)
            edges.extend([(at, role, to) for to, other in enumerate(groups) if masks[other[0]] & ends])
    return World([rows[group[0]] for group in groups], sorted(edges))
