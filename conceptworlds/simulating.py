"""Which things of a world are taken in by which things of another one."""

from conceptworlds.graphs import bits


def takers(graph, other, words):
    """For each thing of a world, the set of the things of another world by which it is taken in.

    The sets shrink, until each edge of a thing is matched by the things of its set.
    """
    names, roles = words
    masks = _starts(graph, other, names)
    before = _sources(graph, roles, len(masks))
    known = {}
    order = _ends_first(before, graph, roles)
    pending = {thing: True for thing in order}
    while pending:
        for thing in [one for one in order if one in pending]:
            del pending[thing]
            for role, sources in before[thing].items():
                key = role, masks[thing]
                if key not in known:
                    known[key] = other.behind(role, masks[thing])
                for source in sources:
                    mask = masks[source] & known[key]
                    if mask != masks[source]:
                        masks[source] = mask
                        pending[source] = True
    return masks


def _starts(graph, other, names):
    """For each thing of a world, the set of the things of another world that have its told names."""
    masks = [other.everything for _ in range(graph.everything.bit_length())]
    for name in names:
        for thing in bits(graph.named.get(name, 0)):
            masks[thing] = masks[thing] & other.named.get(name, 0)
    return masks


def _sources(graph, roles, many):
    """For each of so many things, a dict from told roles to the things with an edge by the role to it."""
    before = [{} for _ in range(many)]
    for role in roles:
        for thing, targets in graph.ahead.get(role, {}).items():
            for target in bits(targets):
                before[target].setdefault(role, []).append(thing)
    return before


def _ends_first(before, graph, roles):
    """All things in an order in which a thing mostly comes behind those to which it has edges.

    This order only saves rounds: a chain needs one.
    """
    order, seen = [], {}
    for start in range(len(before)):
        trail = [] if start in seen else [(start, False)]
        while trail:
            thing, done = trail.pop()
            if done:
                order.append(thing)
            elif thing not in seen:
                seen[thing] = True
                trail.append((thing, True))
                for role in roles:
                    trail.extend([(end, False) for end in bits(graph.targets(role, thing)) if end not in seen])
    return order
