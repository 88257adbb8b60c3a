"""The plainly greatest concepts that lie within a target by a book."""

from conceptworlds.forms import Forms


class Generalizing:
    """Forms of concepts whose names are terms of a table of kinds, and greater ones that lie within a target, too."""

    def __init__(self, table, target):
        self.forms = Forms()
        self._table = table
        self._goal = table.bit_of(target)
        self._kinds = {}

    def kind(self, form):
        """The kind of a form."""
        if form not in self._kinds:
            found = self._table.of_term("all")
            for name in self.forms.rows[form]:
                found = found | self._table.of_term(name)
            for role, part in self.forms.children[form]:
                found = found | self._table.lift(role, self.kind(part))
            self._kinds[form] = self._table.close(found)
        return self._kinds[form]

    def accepts(self, form):
        """Whether a form lies within the target."""
        return bool(self.kind(form) & self._goal)

    def greatest(self, form):
        """A form that a form within the target lies plainly within, and above which no form is within the target."""
        while True:
            form = self._pruned(form, self.accepts)
            upper = [other for other in self.forms.upper(form) if self.accepts(other)]
            if not upper:
                return form
            form = upper[0]

    def _pruned(self, form, fits):
        """A form without those names and somes, at any depth, without which it still fits."""
        names, children = list(self.forms.rows[form]), list(self.forms.children[form])
        for name in self.forms.rows[form]:
            others = [other for other in names if other != name]
            if fits(self.forms.make(others, children)):
                names = others
        for child in self.forms.children[form]:
            others = [other for other in children if other != child]
            if fits(self.forms.make(names, others)):
                children = others
        for at in range(len(children)):
            children = self._with_pruned(names, children, at, fits)
        return self.forms.make(names, children)

    def _with_pruned(self, names, children, at, fits):
        """The somes of a form, with one of them pruned."""
        role, part = children[at]

        def fits_there(other):
            """Whether the form fits with another part of this some."""
            return fits(self.forms.make(names, [*children[:at], (role, other), *children[at + 1:]]))

        return [*children[:at], (role, self._pruned(part, fits_there)), *children[at + 1:]]

    def find_ring(self, form):
        """The concept, and the ways low, ring and high, of a ring on the way from a node of a greatest form up.

        What becomes of a greatest form without what is below a node is no more within the target. So there is a ring
        if the kinds with it and without it are the same at two places on the way.
        """
        waiting = [(form, [])]
        while waiting:
            node, way = waiting.pop()
            found = self._repeated(node, way) if node != self.forms.top else None
            if found is not None:
                return found
            children = self.forms.children[node]
            for at, (role, part) in enumerate(children):
                side = self.forms.make(self.forms.rows[node], [*children[:at], *children[at + 1:]])
                waiting.append((part, [(role, side, node), *way]))
        return None

    def _repeated(self, node, way):
        """What a ring has, for a node and the way from it: roles, with sides, to forms; None, if there is no ring."""
        lower, steps = self._table.of_term("all"), [(role, self.forms.concepts[side]) for role, side, _ in way]
        places = {(self.kind(node), lower): 0}
        for at, (role, side, upper) in enumerate(way):
            lower = self._table.meet(self.kind(side), self._table.lift(role, lower))
            pair = self.kind(upper), lower
            if pair in places:
                first = places[pair]
                return self.forms.concepts[node], steps[:first], steps[first:at + 1], steps[at + 1:]
            places[pair] = at + 1
        return None
