"""What the role rules of a book say: which roles are under which, which pass, which are from each thing to itself."""

from conceptworlds.graphs import bits


class Roles:
    """The role rules of a book, arranged for looking up."""

    def __init__(self, book):
        self.passing = {}
        self.looping = {}
        self._upper = {}
        self._known = {}
        for rule in book:
            if rule[0] == "below":
                self._upper.setdefault(rule[1], {})[rule[2]] = True
            elif rule[0] == "passes":
                self.passing[rule[1]] = True
            elif rule[0] == "itself":
                self.looping[rule[1]] = True

    def over(self, role):
        """A dict from each role that a role is under to the one before it on the way; the role itself has None."""
        if role not in self._known:
            found, waiting, at = {role: None}, [role], 0
            while at < len(waiting):
                for upper in self._upper.get(waiting[at], {}):
                    if upper not in found:
                        found[upper] = waiting[at]
                        waiting.append(upper)
                at = at + 1
            self._known[role] = found
        return self._known[role]

    def way(self, role, upper):
        """The roles from a role to one that it is under, so that each is below the next one by a rule."""
        before, found = self.over(role), [upper]
        while found[-1] != role:
            found.append(before[found[-1]])
        return found[::-1]

    def loop_under(self, role):
        """A role under a role that is from each thing to itself by a rule, or None."""
        for lower in self.looping:
            if role in self.over(lower):
                return lower
        return None

    def all_over(self, roles):
        """All roles that some roles, or roles that are from each thing to itself, are under."""
        found = {}
        for role in [*roles, *self.looping]:
            for upper in self.over(role):
                found[upper] = True
        return list(found)


def close_rows(roles, ahead, many):
    """The edges of a world of so many things with the fewest edges added that keep the role rules.

    They are given and returned as in a Graph. Whatever a role gets from roles under it that pass are
    the ways along edges by such a role, so one closing for each of these is enough.
    """
    found = {role: {} for role in roles.all_over(list(ahead))}
    loops = {thing: 1 << thing for thing in range(many)}
    for lower in [*ahead, *roles.looping]:
        for role in roles.over(lower):
            _unite(found[role], ahead.get(lower, {}))
            _unite(found[role], loops if lower in roles.looping else {})
    for role in [one for one in found if one in roles.passing]:
        ways = _close_ways(found[role])
        for upper in roles.over(role):
            _unite(found[upper], ways)
    return found


def _unite(rows, more):
    """Puts edges, given as a dict from things to sets of things, to others."""
    for thing, targets in more.items():
        rows[thing] = rows.get(thing, 0) | targets


def _close_ways(rows):
    """The ways of one edge or more, as a dict from things to the sets of the things that they reach."""
    found = dict(rows)
    for between in rows:
        for thing in rows:
            if found[thing] >> between & 1:
                found[thing] = found[thing] | found[between]
    return found


def list_edges(ahead):
    """The ascending list of edges that are given as in a Graph."""
    found = []
    for role, rows in ahead.items():
        for thing, targets in rows.items():
            found.extend([(thing, role, end) for end in bits(targets)])
    return sorted(found)
