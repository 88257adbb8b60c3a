"""Products of worlds, as far as what is behind a thing, and as leanest worlds, without all of their edges."""

from conceptworlds.graphs import Graph, bits, mask_of
from conceptworlds.leanest import alike
from conceptworlds.worlds import World


def part_behind(world, thing):
    """The part of a world behind a thing, and the ascending list of the things that it has."""
    graph, reached, waiting = world.graph(), {thing: True}, [thing]
    while waiting:
        one = waiting.pop()
        for role in graph.ahead:
            for end in bits(graph.targets(role, one)):
                if end not in reached:
                    reached[end] = True
                    waiting.append(end)
    order, rows = sorted(reached), world.names()
    places = {one: place for place, one in enumerate(order)}
    edges = [(places[one], role, places[end]) for one, role, end in world.edges() if one in places]
    return World([rows[one] for one in order], edges), order


class Lean:
    """The classes of alike things of a world, each with its names, and with no more edges than needed.

    These are the edges to classes that are not taken in by other ones to which there are edges by the same role.
    The world is given by the names of its things and as a graph.
    rows has the names of the classes, places the class of each thing, and taken_by, for each class, the set of the
    classes by which it is taken in.
    """

    def __init__(self, names, graph):
        groups, masks = alike(graph)
        self.rows = [names[group[0]] for group in groups]
        self.places = [0 for _ in names]
        for place, group in enumerate(groups):
            for thing in group:
                self.places[thing] = place
        heads = [group[0] for group in groups]
        self.taken_by = [mask_of([at for at, head in enumerate(heads) if masks[thing] >> head & 1]) for thing in heads]
        self.ends = [{role: self._greatest(graph.targets(role, head)) for role in graph.ahead} for head in heads]

    def _greatest(self, things):
        """The classes of some things, without those that are taken in by others of them."""
        found = mask_of([self.places[thing] for thing in bits(things)])
        return [place for place in bits(found) if self.taken_by[place] & found == 1 << place]

    def thin_part(self, chosen):
        """A world with some classes, in their order, and with no more edges than needed for their concepts."""
        numbers, edges = {place: number for number, place in enumerate(chosen)}, []
        for place in chosen:
            for role, ends in self.ends[place].items():
                edges.extend([(numbers[place], role, numbers[end]) for end in ends])
        return World([self.rows[place] for place in chosen], sorted(edges))

    def leanest_part(self, chosen):
        """The leanest world, as far as it has some classes, in their order."""
        numbers, edges = {place: number for number, place in enumerate(chosen)}, []
        for place in chosen:
            for role, ends in self.ends[place].items():
                reached = mask_of(ends)
                taken = [numbers[other] for other in chosen if self.taken_by[other] & reached]
                edges.extend([(numbers[place], role, number) for number in taken])
        return World([self.rows[place] for place in chosen], sorted(edges))


def _ways(rows):
    """The ways to choose one of each of some lists, as tuples."""
    found = [()]
    for row in rows:
        found = [(*way, one) for way in found for one in row]
    return found


def _reached(graphs, things):
    """The tuples of things of some worlds that are reached, in their product, from one of them.

    They are returned as a dict from what stands before the last thing to the set of last things. What edges by a role
    lead to from a tuple are all tuples of some sets, so that all with the same beginning can be looked at together.
    """
    found, known = {things[:-1]: 1 << things[-1]}, {}
    waiting, done = [things[:-1]], {}
    while waiting:
        start = waiting.pop()
        fresh = found[start] & ~done.get(start, 0)
        done[start] = found[start]
        for role in graphs[0].ahead:
            box, ends = tuple([graph.targets(role, thing) for graph, thing in zip(graphs, start)]), 0
            for end in bits(fresh):
                ends = ends | graphs[-1].targets(role, end)
            if 0 not in box and ends & ~known.get(box, 0):
                known[box] = known.get(box, 0) | ends
                for way in _ways([bits(mask) for mask in box]):
                    if ends & ~found.get(way, 0):
                        found[way] = found.get(way, 0) | ends
                        waiting.append(way)
    return found


def _each_once(values):
    """Some values, each of them where it first comes."""
    return list({value: True for value in values})


def _joined(first, second, pairs):
    """The classes of the product of two lean worlds, as far as some pairs lead, and a dict from pairs to classes."""
    order = _each_once(pairs)
    numbers, edges = {pair: number for number, pair in enumerate(order)}, []
    at = 0
    while at < len(order):
        one, other = order[at]
        for role, ends in first.ends[one].items():
            reached = 0
            for end in _ways([ends, second.ends[other].get(role, [])]):
                if end not in numbers:
                    numbers[end] = len(order)
                    order.append(end)
                reached = reached | 1 << numbers[end]
            edges.append((at, role, reached))
        at = at + 1
    rows = [tuple([name for name in first.rows[one] if name in second.rows[other]]) for one, other in order]
    graph = Graph(rows, [])
    for thing, role, reached in edges:
        if reached:
            graph.put_edges(thing, role, reached)
    lean = Lean(rows, graph)
    return lean, {pair: lean.places[number] for pair, number in numbers.items()}


def shared_world(worlds, things):
    """The leanest world of the part, behind things of some worlds, of the product of these, and the class of these."""
    lean, chosen, place = shared_classes(worlds, things)
    return lean.leanest_part(chosen), place


def shared_classes(worlds, things):
    """The classes of such a part: a lean world, a list of those of its classes, and the place of the things in it.

    In the product the tuples of things have their numbers in ascending order. A tuple is in just the concepts in
    which its classes are, so that one world after the other can be joined as a lean one.
    """
    parts = [part_behind(world, thing) for world, thing in zip(worlds, things)]
    start = tuple([order.index(thing) for (_, order), thing in zip(parts, things)])
    found = _reached([part.graph() for part, _ in parts], start)
    leans = [Lean(part.names(), part.graph()) for part, _ in parts]
    if len(leans) == 1:
        chosen = _each_once([leans[0].places[end] for end in bits(found[()])])
        return leans[0], chosen, chosen.index(leans[0].places[start[0]])
    order = sorted(found)
    lean, places = leans[0], [leans[0].places[one[0]] for one in order]
    for at in range(1, len(leans) - 1):
        pairs = [(place, leans[at].places[one[at]]) for place, one in zip(places, order)]
        lean, numbers = _joined(lean, leans[at], pairs)
        places = [numbers[pair] for pair in pairs]
    whole = {}
    for place, one in zip(places, order):
        for end in bits(found[one]):
            whole[place, leans[-1].places[end]] = True
    own = places[order.index(start[:-1])], leans[-1].places[start[-1]]
    lean, numbers = _joined(lean, leans[-1], list(whole))
    chosen = _each_once([numbers[pair] for pair in whole])
    return lean, chosen, chosen.index(numbers[own])
