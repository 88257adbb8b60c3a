"""The kinds of concepts as sets of the numbers of terms, so that kinds can be made of other ones."""

from conceptworlds.deciding import saturate_all
from conceptworlds.graphs import bits, lies_in, mask_of
from conceptworlds.programs import Program


class KindTable:
    """The kinds, by a book and asked concepts, of concepts all of whose names are terms."""

    def __init__(self, book, asked):
        self.program = Program(book, asked)
        saturation = saturate_all(self.program)
        self.everything = mask_of(list(self.program.terms))
        self._masks = {}
        self._ands = self.program.ands()
        self._closed = {}
        for term in self.program.terms:
            self._masks[term] = self.everything if saturation.is_dead(term) else saturation.masks[term]

    def of_term(self, concept):
        """The kind of a term."""
        return self._masks[self.program.table.number(concept)]

    def has(self, concept, other):
        """Whether a term lies within another one."""
        return bool(self.of_term(concept) >> self.program.table.number(other) & 1)

    def meet(self, one, other):
        """The kind of the and of two concepts, of their kinds."""
        return self._close(one | other)

    def lift(self, role, mask):
        """The kind of the some with a role and a concept, of the kind of this."""
        found = self._masks[self.program.top]
        for term in bits(mask):
            for conclusion, _ in self.program.lifts(role, term):
                found = found | self._masks[conclusion]
        return self._close(found)

    def _close(self, mask):
        """Some terms, all of which a concept lies within, and all others that follow from them together.

        What follows from one of them alone is among them, so only the ands are to be put to them.
        """
        if mask not in self._closed:
            found, grows = mask, True
            while grows:
                before = found
                for premises, term in self._ands:
                    if lies_in(premises, found):
                        found = found | self._masks[term]
                grows = found != before
            self._closed[mask] = self.everything if found >> self.program.bottom & 1 else found
        return self._closed[mask]
