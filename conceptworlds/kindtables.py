"""The kinds of concepts as sets of the numbers of terms, so that kinds can be made of other ones."""

from conceptworlds.deciding import saturate_all
from conceptworlds.graphs import bits, lies_in, mask_of
from conceptworlds.programs import Program


class KindTable:
    """The kinds, by a book and asked concepts, of concepts all of whose names are terms."""

    def __init__(self, book, asked):
        self.program = Program(book, asked)
        self.saturation = saturate_all(self.program)
        self.everything = mask_of(list(self.program.terms))
        self._masks = {}
        self._ands = self.program.ands()
        self._closed = {}
        self._lifted = {}
        for term in self.program.terms:
            self._masks[term] = self.everything if self.saturation.is_dead(term) else self.saturation.masks[term]

    def of_number(self, term):
        """The kind of the term with a number."""
        return self._masks[term]

    def of_term(self, concept):
        """The kind of a term."""
        return self._masks[self.program.table.number(concept)]

    def of_name(self, name):
        """The kind of a name, also of one that is no term: this says no more than all."""
        return self._masks.get(self.program.table.number(name), self._masks[self.program.top])

    def bit_of(self, concept):
        """The set that has just a term."""
        return 1 << self.program.table.number(concept)

    def has(self, concept, other):
        """Whether a term lies within another one."""
        return bool(self.of_term(concept) >> self.program.table.number(other) & 1)

    def is_dead(self, mask):
        """Whether a kind is that of what is nothing."""
        return bool(mask >> self.program.bottom & 1)

    def of_concept(self, concept):
        """The kind of a concept all of whose names are terms."""
        if isinstance(concept, str):
            return self.of_term(concept)
        if concept[0] == "some":
            return self.lift(concept[1], self.of_concept(concept[2]))
        found = 0
        for part in concept[1:]:
            found = found | self.of_concept(part)
        return self.close(found)

    def meet(self, one, other):
        """The kind of the and of two concepts, of their kinds."""
        return self.close(one | other)

    def lift(self, role, mask):
        """The kind of the some with a role and a concept, of the kind of this."""
        key = role, mask
        if key not in self._lifted:
            found = self._masks[self.program.top]
            for term in bits(mask & self.program.lifting(role)):
                found = found | self.lift_of(role, term)
            self._lifted[key] = self.close(found)
        return self._lifted[key]

    def lift_of(self, role, term):
        """What a thing lies within because it has an edge by a role to a thing that lies within a term."""
        found = 0
        for conclusion, _ in self.program.lifts(role, term):
            found = found | self._masks[conclusion]
        return found

    def close(self, mask):
        """Some terms, all of which a concept lies within, and all others that follow from them together.

        What follows from one of them alone is among them, so only the ands are to be put to them.
        """
        if mask not in self._closed:
            found, grows = mask, True
            while grows:
                before = found
                for premises, term in self._ands:
                    if lies_in(premises, found):
                        found = found | self._masks[term]
                grows = found != before
            self._closed[mask] = self.everything if found >> self.program.bottom & 1 else found
        return self._closed[mask]
