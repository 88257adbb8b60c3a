"""Views of concepts that lie within terms, as far as none of them says less than another one."""

from conceptworlds.graphs import bits


class LeastViews:
    """For each term of a table of kinds, the least views of the concepts that are noted as lying within it.

    A view is what matters of a concept besides; the less it says, the better. The view of an and must depend
    on those of its parts, and say no less if these say no less. noted has all rows that were among the least
    ones when they were noted: a term, a view, and the pieces of a concept.
    """

    def __init__(self, kinds, meet, is_less):
        self._kinds = kinds
        self._meet = meet
        self._is_less = is_less
        self._joint = {}
        self.views = {term: {} for term in kinds.program.terms}
        self.noted = []
        for mask, joint in kinds.program.ands():
            for part in bits(mask):
                self._joint.setdefault(part, []).append((bits(mask), joint))

    def put(self, term, view, pieces):
        """Notes a concept, by its view and its pieces, that lies within a term, and so within all of its kind."""
        is_less = self._is_less
        for upper in bits(self._kinds.of_number(term)):
            rows = self.views[upper]
            if not [other for other in rows if is_less(other, view)]:
                for other in [one for one in rows if is_less(view, one)]:
                    del rows[other]
                rows[view] = pieces
                self.noted.append((upper, view, pieces))

    def close(self, start):
        """Notes the ands of what is noted, from a place on, with the others, where they lie within terms for this."""
        at = start
        while at < len(self.noted):
            term, view, pieces = self.noted[at]
            at = at + 1
            if view in self.views[term]:
                for parts, joint in self._joint.get(term, []):
                    self._join([part for part in parts if part != term], joint, view, pieces)

    def least_from(self, start):
        """The rows that are noted from a place on, and are among the least ones."""
        return [row for row in self.noted[start:] if row[1] in self.views[row[0]]]

    def _join(self, parts, joint, view, pieces):
        """Notes the ands of a concept and of one for each of some terms, which lie within an and."""
        found = {view: pieces}
        for part in parts:
            found = self._met(found, self.views[part])
        for one, own in found.items():
            self.put(joint, one, own)

    def _met(self, rows, others):
        """The ands of concepts, given as a dict from their views to their pieces, with others."""
        meet, found = self._meet, {}
        for one, own in rows.items():
            for other, more in others.items():
                found[meet(one, other)] = (*own, *[piece for piece in more if piece not in own])
        return found
