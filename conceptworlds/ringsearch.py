"""Rings: ways along which a concept stays within a target, and does not any more without what is deep in it."""


class RingSearch:
    """A search for a ring, by pairs of kinds at the beginning of an edge.

    The first kind of a pair is that of what a concept becomes along a way, up to a role; the second one that
    of what "all" becomes. To go on is to put a side, and a role of the next edge. Nodes are those pairs whose
    kinds differ, the first one not being nothing. A node is final, if with a side the first kind has the target and
    the second one has not. A ring is a cycle of nodes from which a final one can be reached. Only those sides
    are put that are least for something: this is quick, and there may be a ring even if none is found.
    """

    def __init__(self, table, target, roles, supports):
        self._table = table
        self._goal = table.bit_of(target)
        self._roles = roles
        self._supports = supports
        self._nodes = []
        self._numbers = {}
        self._origins = []
        self._steps = []
        self._ends = []
        top = table.of_term("all")
        for kind, concept in supports.starts():
            for role in roles:
                self._enter(table.lift(role, kind), table.lift(role, top), (None, concept, role))
        while len(self._steps) < len(self._nodes):
            self._expand(len(self._steps))

    def _enter(self, upper, lower, origin):
        """The number of a node, with the step by which it was first reached; None, if the pair is no node."""
        if upper == lower or self._table.is_dead(upper):
            return None
        key = upper, lower
        if key not in self._numbers:
            self._numbers[key] = len(self._nodes)
            self._nodes.append(key)
            self._origins.append(origin)
        return self._numbers[key]

    def _is_final(self, upper, lower):
        """Whether the first kind of a pair has the target, and the second one has not."""
        return bool(upper & self._goal) and not lower & self._goal

    def _expand(self, at):
        """Finds the nodes to which one step leads from a node, and whether it is final."""
        steps, end, seen = {}, None, {}
        for kind, concept in self._supports.sides(self._nodes[at][0]):
            upper = self._table.meet(self._nodes[at][0], kind)
            lower = self._table.meet(self._nodes[at][1], kind)
            if upper != lower and (upper, lower) not in seen and not self._table.is_dead(upper):
                seen[upper, lower] = True
                if end is None and self._is_final(upper, lower):
                    end = concept
                for role in self._roles:
                    lifted = self._table.lift(role, upper), self._table.lift(role, lower)
                    number = self._enter(*lifted, (at, concept, role))
                    if number is not None:
                        steps.setdefault(number, (concept, role))
        self._steps.append(steps)
        self._ends.append(end)

    def _onward(self):
        """For each node from which a final one can be reached, the next node on the shortest way there, or None."""
        before = [[] for _ in self._nodes]
        for at, steps in enumerate(self._steps):
            for number in steps:
                before[number].append(at)
        found = {at: None for at, end in enumerate(self._ends) if end is not None}
        waiting, place = list(found), 0
        while place < len(waiting):
            for at in before[waiting[place]]:
                if at not in found:
                    found[at] = waiting[place]
                    waiting.append(at)
            place = place + 1
        return found

    def _cycle(self, onward):
        """A cycle of some nodes, as the list of these; None, if there is none."""
        left = {at: True for at in onward}
        shrinks = True
        while shrinks:
            ends = [at for at in left if not [number for number in self._steps[at] if number in left]]
            for at in ends:
                del left[at]
            shrinks = bool(ends)
        if not left:
            return None
        walk = [min(list(left))]
        while walk[-1] not in walk[:-1]:
            walk.append(min([number for number in self._steps[walk[-1]] if number in left]))
        return walk[walk.index(walk[-1]):-1]

    def find(self):
        """The concept, and the ways low, ring and high, of a ring; None, if there is none."""
        onward = self._onward()
        cycle = self._cycle(onward)
        if cycle is None:
            return None
        after = [*cycle[1:], cycle[0]]
        turns = [self._steps[at][number] for at, number in zip(cycle, after)]
        side, role = turns[0]
        concept, low = self._way_to(cycle[0])
        ring = [(own, other) for (_, own), (other, _) in zip(turns, [*turns[1:], turns[0]])]
        high = self._way_on(after[0], role, onward)
        kind = self._table.of_concept(side)
        upper, lower = self._nodes[cycle[0]]
        if self._is_final(self._table.meet(upper, kind), self._table.meet(lower, kind)):
            high = []
        return concept, [*low[:-1], (low[-1], side)], ring, high

    def _way_to(self, node):
        """A concept, and the steps of a way from it to a node, whose last step is a role without a side."""
        at, concept, role = self._origins[node]
        low = [role]
        while at is not None:
            before, side, role = self._origins[at]
            low.append((role, concept))
            at, concept = before, side
        return concept, [*low[:0:-1], low[0]]

    def _way_on(self, node, role, onward):
        """The steps of a way from a node, which a role leads to, to where just the first kind has the target."""
        high = []
        while onward[node] is not None:
            side, other = self._steps[node][onward[node]]
            high.append((role, side))
            node, role = onward[node], other
        return [*high, (role, self._ends[node])]
