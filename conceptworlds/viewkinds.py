"""The views of concepts as sets, so that they can be used as the kinds of a table of kinds are."""

from conceptworlds.viewtables import ViewTable


class ViewKinds:
    """The views of concepts, as sets with a bit for each term, for each thing of a world, and for each pair.

    The bit of a thing tells that the concept lies within each concept in told words in which the thing is. The world
    keeps the book. Bits of terms come first, then those of things, then those of pairs of a role and a thing.
    """

    def __init__(self, book, words, world, roles):
        self._views = ViewTable(book, words, world, roles)
        self._terms = self._views.kinds.everything
        self._first_thing = self._terms.bit_length()
        self._every_thing = (1 << len(world)) - 1
        self._first_pair = self._first_thing + len(world)
        self._known = {}
        self._lifted = {}

    def bit_of_thing(self, thing):
        """The set that has just a thing."""
        return 1 << self._first_thing + thing

    def of_term(self, concept):
        """The view of a term."""
        return self._whole(self._views.of(concept))

    def of_name(self, name):
        """The view of a name."""
        return self._whole(self._views.of_name(name))

    def of_concept(self, concept):
        """The view of a concept."""
        return self._whole(self._views.of(concept))

    def meet(self, one, other):
        """The view of the and of two concepts, of their views."""
        return self.close(one | other)

    def close(self, mask):
        """The view of the and of concepts, of the union of their views."""
        kind = self._views.kinds.close(mask & self._terms)
        return self._whole(self._views.make(kind, mask >> self._first_pair))

    def lift(self, role, mask):
        """The view of the some with a role and a concept, of the view of this."""
        key = role, mask
        if key not in self._lifted:
            kind = self._views.kinds.lift(role, mask & self._terms)
            self._lifted[key] = self._whole(self._views.make(kind, self._led_pairs(role, mask)))
        return self._lifted[key]

    def lift_of(self, role, place):
        """What a thing lies within because it has an edge by a role to a thing that has a bit."""
        if place < self._first_thing:
            return self._views.kinds.lift_of(role, place)
        return self._led_pairs(role, 1 << place) << self._first_pair

    def _led_pairs(self, role, mask):
        """The pairs of a some with a role, of the things and the pairs of its part."""
        things = mask >> self._first_thing & self._every_thing
        return self._views.led_pairs(role, things, mask >> self._first_pair)

    def _whole(self, view):
        """The set for a view, with its things."""
        if view not in self._known:
            kind, pairs = view
            things = self._views.things_of(view)
            self._known[view] = kind | things << self._first_thing | pairs << self._first_pair
        return self._known[view]
