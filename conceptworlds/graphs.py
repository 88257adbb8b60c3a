"""Sets of the things of a finite world, as integers: bit x of the integer stands for the thing x."""

from conceptworlds.concepts import inner


def bits(mask):
    """The ascending list of the things of a set."""
    found = []
    while mask:
        lowest = mask & -mask
        found.append(lowest.bit_length() - 1)
        mask = mask ^ lowest
    return found


def mask_of(things):
    """The set of some things."""
    found = 0
    for thing in things:
        found = found | 1 << thing
    return found


class Graph:
    """The names and edges of a finite world, arranged for looking up sets of things."""

    def __init__(self, names, edges):
        self.everything = (1 << len(names)) - 1
        self.named = {}
        self.ahead = {}
        self._sources = {}
        for thing, row in enumerate(names):
            for name in row:
                self.named[name] = self.named.get(name, 0) | 1 << thing
        for thing, role, other in edges:
            self.put_edges(thing, role, 1 << other)

    def put_edges(self, thing, role, ends):
        """Puts edges by a role from a thing to a set of things, before anything is looked up."""
        rows = self.ahead.setdefault(role, {})
        rows[thing] = rows.get(thing, 0) | ends

    def behind(self, role, mask):
        """The set of the things that have an edge by a role into a set."""
        found, rows = 0, self.sources(role)
        for thing in bits(mask):
            found = found | rows.get(thing, 0)
        return found

    def sources(self, role):
        """A dict from the things to which edges by a role lead to the sets of the things from which they come."""
        if role not in self._sources:
            rows = {}
            for thing, others in self.ahead.get(role, {}).items():
                for end in bits(others):
                    rows[end] = rows.get(end, 0) | 1 << thing
            self._sources[role] = rows
        return self._sources[role]

    def holding(self, concept):
        """The set of the things that are in a concept."""
        if isinstance(concept, str):
            if concept == "all":
                return self.everything
            return self.named.get(concept, 0)
        if concept[0] == "some":
            return self.behind(concept[1], self.holding(concept[2]))
        found = self.everything
        for part in inner(concept):
            found = found & self.holding(part)
        return found

    def targets(self, role, thing):
        """The set of the things to which a thing has an edge by a role."""
        return self.ahead.get(role, {}).get(thing, 0)


def lies_in(part, whole):
    """Whether a set lies within another one."""
    return part & whole == part
