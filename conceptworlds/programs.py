"""The terms of a book and some asked concepts, and what follows at once from them."""

from conceptworlds.concepts import text_of
from conceptworlds.graphs import mask_of
from conceptworlds.roles import Roles
from conceptworlds.tables import Table


class Program:
    """The terms of a book, by their numbers, and for each term what follows from it at once.

    A horn is a triple of a tuple of terms, of a term that whatever lies within all of these lies within,
    and of the reason, as Saturation has them.
    """

    def __init__(self, book, asked):
        self.roles = Roles(book)
        self.table = Table()
        self.terms = {}
        self._horns = {}
        self._somes = {}
        self._lifts = {}
        self._lifting = {}
        self._loops = {}
        self.top = self.enter("all")
        self.bottom = self.enter("none")
        for index, rule in enumerate(book):
            if rule[0] == "within":
                first, second = self.enter(rule[1]), self.enter(rule[2])
                self.put_horn((first,), second, ("rule", index, first))
        for concept in asked:
            self.enter(concept)

    def enter(self, concept):
        """Makes a concept a term, and with it all that must be terms then; returns its number."""
        number = self.table.number(concept)
        waiting = [number]
        while waiting:
            term = waiting.pop()
            if term not in self.terms:
                self.terms[term] = True
                waiting.extend(self._connect(term))
        return number

    def put_horn(self, premises, conclusion, reason):
        """Notes that whatever lies within some terms lies within another one."""
        for premise in sorted(set(premises)):
            self._horns.setdefault(premise, []).append((premises, conclusion, reason))

    def horns(self, term):
        """The horns of which a term is a premise."""
        return self._horns.get(term, [])

    def _connect(self, term):
        """Notes what follows from a new term, or what it follows from; returns what must be terms, too."""
        role, within = self.table.roles[term], self.table.within[term]
        if role is None:
            for part in within:
                self.put_horn((term,), part, ("part", term))
            if within:
                self.put_horn(within, term, ("and",))
            return list(within)
        part = within[0]
        for other in self._somes.setdefault(part, []):
            self._compare(term, other)
            self._compare(other, term)
        self._somes[part].append(term)
        if self._loops_under(role):
            self.put_horn((part,), term, ("itself", part))
        lower = [one for one in self.roles.passing if role in self.roles.over(one)]
        return [part, *[self.table.some(one, part) for one in lower]]

    def _compare(self, lower, upper):
        """Notes that a some lies within another one with the same part, if its role is under the other's."""
        if self.table.roles[upper] in self.roles.over(self.table.roles[lower]):
            self.put_horn((lower,), upper, ("below", lower))

    def _loops_under(self, role):
        """Whether a role has an edge from each thing to itself, by the role rules."""
        if role not in self._loops:
            self._loops[role] = self.roles.loop_under(role) is not None
        return self._loops[role]

    def lifts(self, role, term):
        """What a thing lies within that has an edge by a role to a thing that lies within a term.

        They are pairs of a term and of the word of the reason. All terms must have been entered.
        """
        key = role, term
        if key not in self._lifts:
            over, own = self.roles.over(role), self.table.roles[term]
            found = [(some, "some") for some in self._somes.get(term, []) if self.table.roles[some] in over]
            if own in self.roles.passing and own in over:
                found.append((term, "passes"))
            if term == self.bottom:
                found.append((term, "empty"))
            self._lifts[key] = found
        return self._lifts[key]

    def lifting(self, role):
        """The set of the terms for which there are lifts by a role. All terms must have been entered."""
        if role not in self._lifting:
            self._lifting[role] = mask_of([term for term in self.terms if self.lifts(role, term)])
        return self._lifting[role]

    def ands(self):
        """The terms that are ands, as pairs of the set of the concepts in it, and of the term."""
        within, roles = self.table.within, self.table.roles
        return [(mask_of(within[term]), term) for term in self.terms if within[term] and roles[term] is None]

    def concept_of(self, term):
        """The concept with a number."""
        return self.table.concepts[term]

    def in_order(self, terms):
        """Some numbers of concepts, in the ascending order of the concepts."""
        texts = sorted([(text_of(self.table.concepts[term]), term) for term in terms])
        return [term for _, term in texts]

    def names_among(self, terms):
        """The ascending tuple of the names among the concepts with some numbers."""
        concepts = [self.table.concepts[term] for term in terms]
        return tuple(sorted([one for one in concepts if isinstance(one, str) and one not in ("all", "none")]))
