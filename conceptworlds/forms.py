"""Reduced forms with numbers, how they lie within each other, and which are directly above which."""

from conceptworlds.concepts import conjoin, is_without_none
from conceptworlds.graphs import lies_in


class Forms:
    """Reduced forms of concepts without none: each gets a number when it is first met.

    For each number, concepts has the form, texts its text, rows its names, ascending, and children the pairs
    of a role and of the number of a form, for its somes, in their order.
    """

    def __init__(self):
        self.concepts = []
        self.texts = []
        self.rows = []
        self.children = []
        self._numbers = {}
        self._within = {}
        self._upper = {}
        self._masks = []
        self._bits = {}
        self.top = self.make([], [])

    def of(self, concept):
        """The number of the reduced form of a concept without none."""
        names, children = [], []
        self._gather(concept, names, children)
        return self.make(names, children)

    def _gather(self, concept, names, children):
        """Puts the names and the somes of a concept that are in no some into two lists."""
        if isinstance(concept, str):
            if concept != "all":
                names.append(concept)
        elif concept[0] == "some":
            children.append((concept[1], self.of(concept[2])))
        else:
            for part in concept[1:]:
                self._gather(part, names, children)

    def make(self, names, children):
        """The number of the form that has some names, and somes with forms, as pairs of a role and a number."""
        row = tuple(sorted(set(names)))
        least = self._needed_parts(children)
        somes = [(self._text_of_some(role, form), role, form) for role, form in least]
        key = row, tuple([(role, form) for _, role, form in sorted(somes)])
        if key not in self._numbers:
            items = [(name, name) for name in row]
            items.extend([(told, ("some", role, self.concepts[form])) for told, role, form in somes])
            items = sorted(items, key=lambda item: item[0])
            self._numbers[key] = len(self.concepts)
            self.concepts.append(conjoin([concept for _, concept in items]))
            self.texts.append(" & ".join([told for told, _ in items]) if items else "all")
            self.rows.append(row)
            self.children.append(key[1])
            self._masks.append(self._mask(row))
        return self._numbers[key]

    def _mask(self, names):
        """The set of some names, each of which gets a bit when it is first met."""
        found = 0
        for name in names:
            found = found | 1 << self._bits.setdefault(name, len(self._bits))
        return found

    def _text_of_some(self, role, form):
        """The text of the some with a role and a form."""
        if len(self.rows[form]) + len(self.children[form]) > 1:
            return f"some {role} ({self.texts[form]})"
        return f"some {role} {self.texts[form]}"

    def _needed_parts(self, children):
        """Those of some somes that none of the others lies plainly within."""
        known = {child: True for child in children}
        by_role = {}
        for role, form in known:
            by_role.setdefault(role, []).append(form)
        found = []
        for role, form in known:
            others = by_role[role]
            if not self._has_lower(form, others):
                found.append((role, form))
        return found

    def _has_lower(self, form, others):
        """Whether another one of some forms lies plainly within a form."""
        masks, own = self._masks, self._masks[form]
        for other in [one for one in others if own & masks[one] == own and one != form]:
            if self.is_within(other, form):
                return True
        return False

    def is_within(self, form, other):
        """Whether a form lies plainly within another one."""
        if not lies_in(self._masks[other], self._masks[form]):
            return False
        if form == other or not self.children[other]:
            return True
        key = form, other
        if key not in self._within:
            self._within[key] = self._maps(form, other)
        return self._within[key]

    def _maps(self, form, other):
        """Whether a form has, for each of the somes of another one, a some within it."""
        for role, goal in self.children[other]:
            met = False
            for own, child in self.children[form]:
                if own == role and self.is_within(child, goal):
                    met = True
                    break
            if not met:
                return False
        return True

    def upper(self, form):
        """The numbers of the forms that are directly above a form.

        A form is the and of its names and somes, and none of these lies within another one. To go a step up
        is to put, in the place of one of them, what is directly above it: nothing for a name, and for a some
        the and of all somes with what is directly above its part.
        """
        if form not in self._upper:
            row, children = self.rows[form], self.children[form]
            found = [self.make([other for other in row if other != name], children) for name in row]
            for at in range(len(children)):
                found.append(self.make(row, self._raised(children, at)))
            self._upper[form] = found
        return self._upper[form]

    def _raised(self, children, at):
        """Some somes, with what is directly above one of them in its place."""
        role, part = children[at]
        return [*children[:at], *[(role, above) for above in self.upper(part)], *children[at + 1:]]

    def common(self, forms):
        """The number of the plain common concept of one or more forms."""
        if len(forms) == 1:
            return forms[0]
        first = forms[0]
        row = [name for name in self.rows[first] if not self._lacks(forms, name)]
        children = []
        for role, choice in self.choices(forms):
            children.append((role, self.common(choice)))
        return self.make(row, children)

    def _lacks(self, forms, name):
        """Whether one of some forms does not have a name outside of its somes."""
        for form in forms:
            if name not in self.rows[form]:
                return True
        return False

    def choices(self, forms):
        """The ways to choose a child by the same role from each of some forms, as pairs of a role and a list."""
        found = []
        for role in self._roles_of(forms[0]):
            rows = self._ends_by(forms, role)
            ways = [[]] if min([len(ends) for ends in rows]) else []
            for ends in rows:
                ways = [[*way, end] for way in ways for end in ends]
            found.extend([(role, way) for way in ways])
        return found

    def many_choices(self, forms):
        """How many ways there are to choose a child by the same role from each of some forms."""
        total = 0
        for role in self._roles_of(forms[0]):
            many = 1
            for ends in self._ends_by(forms, role):
                many = many * len(ends)
            total = total + many
        return total

    def _roles_of(self, form):
        """The roles of the somes of a form, each one once."""
        return list({role: True for role, _ in self.children[form]})

    def _ends_by(self, forms, role):
        """For each of some forms, the list of its children by a role."""
        return [[child for own, child in self.children[form] if own == role] for form in forms]


def numbers_apart(forms, told):
    """The numbers of some concepts, if they are reduced forms without none, ascending, and none lies within another.

    Otherwise None.
    """
    if [concept for concept in told if not is_without_none(concept)]:
        return None
    numbers = [forms.of(concept) for concept in told]
    texts = [forms.texts[number] for number in numbers]
    if [forms.concepts[number] for number in numbers] != list(told) or texts != sorted(set(texts)):
        return None
    for number in numbers:
        if [other for other in numbers if other != number and forms.is_within(number, other)]:
            return None
    return numbers
