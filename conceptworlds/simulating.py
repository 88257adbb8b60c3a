"""Which things of a world are taken in by which things of another one."""

from conceptworlds.graphs import bits


def takers(graph, other, words):
    """For each thing of a world, the set of the things of another world by which it is taken in.

    The sets shrink, until each edge of a thing is matched by the things of its set.
    """
    names, roles = words
    masks, known = _starts(graph, other, names), {}
    order = _ends_first(graph, roles)
    pending = {thing: True for thing in order}
    while pending:
        for thing in [one for one in order if one in pending]:
            del pending[thing]
            for role in roles:
                key, sources = (role, masks[thing]), graph.sources(role).get(thing, 0)
                if sources and key not in known:
                    known[key] = other.behind(role, masks[thing])
                for source in bits(sources):
                    mask = masks[source] & known[key]
                    if mask != masks[source]:
                        masks[source] = mask
                        pending[source] = True
    return masks


def _starts(graph, other, names):
    """For each thing of a world, the set of the things of another world that have its told names."""
    masks = [other.everything for _ in range(graph.everything.bit_length())]
    for name in names:
        for thing in bits(graph.named.get(name, 0)):
            masks[thing] = masks[thing] & other.named.get(name, 0)
    return masks


def _ends_first(graph, roles):
    """All things in an order in which a thing mostly comes behind those to which it has edges.

    This order only saves rounds: a chain needs one.
    """
    order, seen = [], {}
    for start in bits(graph.everything):
        trail = [] if start in seen else [(start, False)]
        while trail:
            thing, done = trail.pop()
            if done:
                order.append(thing)
            elif thing not in seen:
                seen[thing] = True
                trail.append((thing, True))
                for role in roles:
                    trail.extend([(end, False) for end in bits(graph.targets(role, thing)) if end not in seen])
    return order


def found_pairs(graph, other, masks, pair, roles):
    """An ascending list of pairs of things, of which the first are taken in by the second, from a pair of these on.

    masks are the sets of takers. For each edge of the first thing of a pair by a told role, there is one of the
    second thing that leads to a pair, too.
    """
    found, waiting = {pair: True}, [pair]
    while waiting:
        one, taker = waiting.pop()
        for role in roles:
            ends = other.targets(role, taker)
            for end in bits(graph.targets(role, one)):
                fresh = end, bits(ends & masks[end])[0]
                if fresh not in found:
                    found[fresh] = True
                    waiting.append(fresh)
    return sorted(found)
