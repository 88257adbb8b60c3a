"""What may stand beside an edge, so that a thing with both lies within a term."""

from conceptworlds.concepts import conjoin
from conceptworlds.graphs import bits, lies_in
from conceptworlds.leastviews import LeastViews


def _concept(pieces):
    """The and of some pieces, of which some may be all."""
    return conjoin([piece for piece in pieces if piece != "all"])


class Supports:
    """Concepts in told words of the least kinds that lie within terms, alone or together with what is given."""

    def __init__(self, table, target, words):
        self._table = table
        self._words = words
        self._goals = table.bit_of(target)
        for role in words[1]:
            self._goals = self._goals | table.program.lifting(role)
        self._alone = LeastViews(table, table.meet, lies_in)
        self._known = {}
        for concept in ("all", *words[0]):
            self._put(table.program.table.number(concept), table.of_term(concept), (concept,))
        start = 0
        while start < len(self._alone.noted):
            self._alone.close(start)
            rows, start = self._alone.least_from(start), len(self._alone.noted)
            for term, kind, pieces in rows:
                self._rise(term, kind, pieces)

    def _put(self, term, kind, pieces):
        """Notes a concept that lies within a term, if it is not nothing."""
        if not self._table.is_dead(kind):
            self._alone.put(term, kind, pieces)

    def _rise(self, term, kind, pieces):
        """Notes the somes with a concept that lies within a term."""
        for role in self._words[1]:
            for conclusion, _ in self._table.program.lifts(role, term):
                self._put(conclusion, self._table.lift(role, kind), (("some", role, _concept(pieces)),))

    def starts(self):
        """Pairs of a kind and a concept: the least ones for the terms that matter for edges, and for the target."""
        return self._chosen(self._alone)

    def sides(self, given):
        """Pairs of a kind and a concept: the least ones for those terms, together with a kind that is given."""
        if given not in self._known:
            least, top = LeastViews(self._table, self._table.meet, lies_in), self._table.of_term("all")
            for term in bits(given):
                least.put(term, top, ("all",))
            for term in bits(self._table.everything & ~given):
                for kind, pieces in self._alone.views[term].items():
                    least.put(term, kind, pieces)
            least.close(0)
            self._known[given] = self._chosen(least)
        return self._known[given]

    def _chosen(self, least):
        """The pairs of a kind and a concept for the terms that matter, each kind once."""
        found = {}
        for goal in bits(self._goals):
            for kind, pieces in least.views[goal].items():
                found.setdefault(kind, _concept(pieces))
        return list(found.items())
