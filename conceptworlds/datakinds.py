"""What the things of data certainly are: the kinds of what can be seen from them in the data, depth by depth."""

from conceptworlds.graphs import bits, lies_in
from conceptworlds.roles import close_rows, list_edges
from conceptworlds.worlds import World


class DataKinds:
    """The kinds, by a table, of the things of data: of all that can be seen from a thing at any depth.

    For each thing, rows has the pairs of a depth and of the kind of what can be seen at this depth at most, for
    those depths at which it grows.
    """

    def __init__(self, table, data, rows=None):
        self.table = table
        self.data = data
        self.steps = [[] for _ in range(len(data))]
        self._before = [[] for _ in range(len(data))]
        for thing, role, end in data.edges():
            self.steps[thing].append((role, end))
            self._before[end].append((thing, role))
        self.rows = []
        if rows is None:
            self.rows = [[(0, self._kind_of_names(row))] for row in data.names()]
            self._run(list(range(len(data))))
        else:
            self.rows = rows

    def with_name(self, thing, name):
        """The same for a thing with one more name, where only the last kind of each row has a meaning."""
        found = DataKinds(self.table, self.data, [[(0, row[-1][1])] for row in self.rows])
        kind = self.table.meet(self.kind(thing), self.table.of_name(name))
        if kind != self.kind(thing):
            found.rows[thing] = [(0, kind)]
            found._run([thing])
        return found

    def kind(self, thing):
        """The kind of all that can be seen from a thing."""
        return self.rows[thing][-1][1]

    def kind_at(self, thing, depth):
        """The kind of what can be seen from a thing at a depth at most."""
        found = [kind for at, kind in self.rows[thing] if at <= depth]
        return found[-1] if found else self.table.of_term("all")

    def depth_of(self, thing, goal):
        """The least depth at which a thing is seen to be in some terms, or None."""
        for depth, kind in self.rows[thing]:
            if lies_in(goal, kind):
                return depth
        return None

    def are_possible(self):
        """Whether the data are possible."""
        for row in self.rows:
            if self.table.is_dead(row[-1][1]):
                return False
        return True

    def _kind_of_names(self, names):
        """The kind of the and of some names."""
        found = self.table.of_term("all")
        for name in names:
            found = found | self.table.of_name(name)
        return self.table.close(found)

    def _run(self, changed):
        """Finds what can be seen at greater and greater depths, as long as something is new."""
        depth = 0
        while changed:
            depth = depth + 1
            gains = {}
            for end in changed:
                for thing, role in self._before[end]:
                    gains[thing] = gains.get(thing, 0) | self.table.lift(role, self.kind(end))
            changed = []
            for thing, gain in gains.items():
                kind = self.table.meet(self.kind(thing), gain)
                if kind != self.kind(thing):
                    changed.append(thing)
                    self.rows[thing].append((depth, kind))


def _asked_parts(table, kind):
    """The edges that a kind asks for, as pairs of a role and of the number of the term to which it leads."""
    program = table.program
    return [(program.table.roles[term], program.table.within[term][0]) for term in bits(kind)
            if program.table.roles[term] is not None]


def data_world(kinds, names, terms):
    """A world that keeps the book, with the things of possible data before some terms, and those that they ask for.

    Each thing is in just those concepts to which it is a certain answer, or that the term lies within; names has
    those of the things of the data.
    """
    table, program = kinds.table, kinds.table.program
    masks = [row[-1][1] for row in kinds.rows]
    many, subjects = len(masks), list(terms)
    places = {term: many + at for at, term in enumerate(subjects)}
    ahead, at = {}, 0
    for thing, role, end in kinds.data.edges():
        _put_edge(ahead, thing, role, end)
    while at < many + len(subjects):
        mask = masks[at] if at < many else table.of_number(subjects[at - many])
        for role, part in _asked_parts(table, mask):
            if part not in places:
                places[part] = many + len(subjects)
                subjects.append(part)
            _put_edge(ahead, at, role, places[part])
        at = at + 1
    found = [program.names_among(bits(mask)) for mask in masks]
    rows = [tuple(sorted(set([*row, *more]))) for row, more in zip(names, found)]
    rows.extend([program.names_among(bits(table.of_number(term))) for term in subjects])
    return World(rows, list_edges(close_rows(program.roles, ahead, len(rows))))


def _put_edge(ahead, thing, role, end):
    """Puts an edge to some that are given as in a Graph."""
    rows = ahead.setdefault(role, {})
    rows[thing] = rows.get(thing, 0) | 1 << end
