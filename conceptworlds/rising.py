"""Steps up from a concept without none: what is directly above it, and ladders of such steps."""

from conceptworlds.errors import NotWithin, TooLarge
from conceptworlds.forms import Forms
from conceptworlds.graphs import bits, lies_in, mask_of
from conceptworlds.trees import need_without_none

MOST_STEPS = 60
MOST_ABOVE = 200


def _in_order(forms, numbers):
    """The ascending list of the forms with some numbers."""
    order = sorted([(forms.texts[number], number) for number in numbers])
    return [forms.concepts[number] for _, number in order]


def steps_up(concept):
    """The ascending list of the reduced forms of the concepts directly above a concept."""
    need_without_none(concept)
    forms = Forms()
    return _in_order(forms, forms.upper(forms.of(concept)))


class Above:
    """All forms that forms lie plainly within, as long as they are not too many.

    A form lies within just those names and somes that it has, and those somes whose part is above that of one
    of its somes. What is above it are the ands of such items that have, with each item, all that are above it.
    """

    def __init__(self, forms, most):
        self._forms = forms
        self._most = most
        self._known = {}

    def of(self, form):
        """The numbers of all forms that a form lies plainly within; None, if there are too many."""
        if form not in self._known:
            items = self.items_of(form)
            self._known[form] = None if items is None or len(items) >= self._most else self._joints(items)
        return self._known[form]

    def items_of(self, form):
        """The names and somes that a form lies plainly within, as pairs of a role, None for a name, and a part."""
        found = {(None, name): True for name in self._forms.rows[form]}
        for role, child in self._forms.children[form]:
            upper = self.of(child)
            if upper is None:
                return None
            for part in upper:
                found[role, part] = True
        return list(found)

    def _joints(self, items):
        """The numbers of the ands of items; None, if there are too many. Items come behind those above them."""
        upper = [mask_of(self._items_above(items, item)) for item in items]
        order = sorted([(len(bits(mask)), at) for at, mask in enumerate(upper)])
        found = [(0, ())]
        for _, at in order:
            for mask, least in list(found):
                if lies_in(upper[at], mask):
                    found.append((mask | 1 << at, (*[other for other in least if not upper[at] >> other & 1], at)))
                    if len(found) > self._most:
                        return None
        return [self._form_of([items[place] for place in least]) for _, least in found]

    def _items_above(self, items, item):
        """The places of the other ones of some items that an item lies plainly within."""
        role, part = item
        found = []
        for at, (own, other) in enumerate(items):
            if role is not None and own == role and other != part and self._forms.is_within(part, other):
                found.append(at)
        return found

    def _form_of(self, items):
        """The number of the and of some items."""
        names = [part for role, part in items if role is None]
        return self._forms.make(names, [item for item in items if item[0] is not None])


def rank(concept):
    """The number of steps from a concept to all: each step takes away one item that it lies plainly within."""
    need_without_none(concept)
    forms = Forms()
    items = Above(forms, MOST_STEPS).items_of(forms.of(concept))
    if items is None or len(items) > MOST_STEPS:
        raise TooLarge("the rank is more than 60")
    return len(items)


def above(concept):
    """The ascending list of the reduced forms of all concepts that a concept lies plainly within."""
    need_without_none(concept)
    forms = Forms()
    found = Above(forms, MOST_ABOVE).of(forms.of(concept))
    if found is None:
        raise TooLarge("there are more than 200 concepts above")
    return _in_order(forms, found)


def _need_within(concept, other):
    """The numbers of the forms of two concepts among some forms; the first must lie plainly within the other."""
    need_without_none(concept)
    need_without_none(other)
    forms = Forms()
    first, last = forms.of(concept), forms.of(other)
    if not forms.is_within(first, last):
        raise NotWithin("the first concept does not lie plainly within the other one")
    return forms, first, last


def _is_rung(forms, upper, lower):
    """Whether a value is a reduced form, and directly above another one, whose number is given."""
    return upper in [forms.concepts[number] for number in forms.upper(lower)]


class Ladder:
    """Reduced forms from a concept to another one, each next one directly above the one before."""

    def __init__(self, concepts):
        self.concepts = list(concepts)

    def __eq__(self, other):
        return isinstance(other, Ladder) and self.concepts == other.concepts

    def shows(self, concept, other):
        """Whether the concepts are a ladder from the first concept to the other one."""
        forms, first, last = _need_within(concept, other)
        if not self.concepts or self.concepts[0] != forms.concepts[first]:
            return False
        if self.concepts[-1] != forms.concepts[last]:
            return False
        for lower, upper in zip(self.concepts, self.concepts[1:]):
            if not _is_rung(forms, upper, forms.of(lower)):
                return False
        return True


def ladder(concept, other):
    """A ladder from a concept to another one that it lies plainly within."""
    forms, at, last = _need_within(concept, other)
    concepts = [forms.concepts[at]]
    while at != last:
        for number in forms.upper(at):
            if forms.is_within(number, last):
                at = number
                break
        concepts.append(forms.concepts[at])
    return Ladder(concepts)
