"""What concepts say, by a book, of the things of a world, made of what their parts say."""

from conceptworlds.graphs import bits, lies_in, mask_of
from conceptworlds.kindtables import KindTable
from conceptworlds.simulating import takers
from conceptworlds.tables import value_of
from conceptworlds.toldworlds import telling_world


class ViewTable:
    """The views of concepts in told words, as pairs of a kind and of a set of pairs of a role and a thing.

    A pair of a role and a thing is in the set, if the concept lies, by the book, within the some of the role and
    each concept in told words in which the thing is. The things of a role have a stretch of bits of their own.
    The world keeps the role rules of the book; it is None for a world without things.
    """

    def __init__(self, book, words, world, roles):
        self.kinds = KindTable(book, words[0])
        self._many = 0 if world is None else len(world)
        self._starts = {role: at * self._many for at, role in enumerate(roles)}
        self._every_thing = (1 << self._many) - 1
        self.dead = self.kinds.everything, (1 << self._many * len(roles)) - 1
        self._roles = self.kinds.program.roles
        self._loops = [role for role in roles if self._roles.loop_under(role) is not None]
        self._wants = [] if world is None else self._find_wants(world, words)
        self._term_pairs = {}
        if world is not None and not self.kinds.saturation.is_dead(self.kinds.program.top):
            self._find_term_pairs(world.graph(), words, roles)
        self._implied = {}
        self._found = {}

    def pairs_of(self, role):
        """The set of all pairs with a role."""
        return self._every_thing << self._starts[role]

    def list_pairs(self, pairs):
        """The pairs of a set as a list of pairs of a role and a thing."""
        found = []
        for role, start in self._starts.items():
            found.extend([(role, thing) for thing in bits(pairs >> start & self._every_thing)])
        return found

    def of_name(self, name):
        """The view of all, of none, or of a name; one that is no term says no more than all."""
        return self.make(self.kinds.of_name(name), 0)

    def of(self, concept):
        """The view of a concept."""
        return value_of(self, concept)

    def meet(self, one, other):
        """The view of the and of two concepts, of their views."""
        return self.make(self.kinds.meet(one[0], other[0]), one[1] | other[1])

    def lift(self, role, view):
        """The view of the some with a role and a concept, of the view of this."""
        return self.make(self.kinds.lift(role, view[0]), self.led_pairs(role, self.things_of(view), view[1]))

    def led_pairs(self, role, things, pairs):
        """The pairs of a some with a role, of the things and the pairs of its part.

        The edge to the part's thing is one by each role that the role is under, and by one that passes
        it leads on to where edges by this role lead from there. A role that is none of the table's has no pairs.
        """
        found = 0
        for upper in [one for one in self._roles.over(role) if one in self._starts]:
            found = found | things << self._starts[upper]
            if upper in self._roles.passing:
                ends = pairs >> self._starts[upper] & self._every_thing
                for last in self._roles.over(upper):
                    found = found | ends << self._starts[last]
        return found

    def things_of(self, view):
        """The set of the things so that the concept lies within each concept in told words in which the thing is."""
        if view == self.dead:
            return self._every_thing
        kind, pairs = view
        found = 0
        for thing, (names, edges) in enumerate(self._wants):
            if lies_in(names, kind) and lies_in(edges, pairs):
                found = found | 1 << thing
        return found

    def _find_wants(self, world, words):
        """For each thing, the set of its told names, as terms, and that of its edges by told roles, as pairs."""
        found, rows = [], world.names()
        for thing in range(len(world)):
            names, edges = 0, 0
            for name in rows[thing]:
                if name in words[0]:
                    names = names | self.kinds.bit_of(name)
            for role in words[1]:
                edges = edges | world.graph().targets(role, thing) << self._starts[role]
            found.append((names, edges))
        return found

    def _find_term_pairs(self, graph, words, roles):
        """Finds the pairs of all terms that are not nothing: the told world has them as things."""
        told, terms = telling_world(self.kinds.program, self.kinds.saturation)
        masks, others = takers(graph, told.graph(), words), told.graph()
        for place, term in enumerate(terms):
            pairs = 0
            for role in roles:
                ends = others.targets(role, place)
                reached = mask_of([thing for thing, mask in enumerate(masks) if mask & ends])
                pairs = pairs | reached << self._starts[role]
            self._term_pairs[self.kinds.program.table.number(term)] = pairs

    def pairs_of_term(self, term):
        """The pairs of the term with a number, if it is not nothing."""
        return self._term_pairs.get(term, 0)

    def _implied_by(self, kind):
        """The pairs of all terms of a kind that is not that of nothing."""
        if kind not in self._implied:
            pairs = 0
            for term in bits(kind):
                pairs = pairs | self.pairs_of_term(term)
            self._implied[kind] = pairs
        return self._implied[kind]

    def make(self, kind, pairs):
        """The view of a concept with a kind, and with some pairs, to which others may have to be put."""
        if self.kinds.is_dead(kind):
            return self.dead
        pairs = pairs | self._implied_by(kind)
        if not self._loops:
            return kind, pairs
        key = kind, pairs
        if key not in self._found:
            self._found[key] = kind, self._with_loops(kind, pairs)
        return self._found[key]

    def _with_loops(self, kind, pairs):
        """Some pairs of a concept, and those that it has by an edge to itself.

        The things of the concept are as many as can be: what they want of edges may be met by such edges.
        """
        things, before = self._every_thing, None
        while things != before:
            before, found = things, pairs
            for role in self._loops:
                found = found | things << self._starts[role]
            things = self.things_of((kind, found)) & before
        return found
