"""The words that can matter for lying within a concept."""

from conceptworlds.concepts import told_words
from conceptworlds.graphs import bits


class Relevance:
    """The terms that can matter for lying within a goal, and the words that can."""

    def __init__(self, table, goal, words):
        self._table = table
        self._program = table.program
        self._roles = {}
        self._terms = {}
        self._causes = self._find_causes(words[1])
        self._below = self._find_below()
        waiting = [self._program.table.number(goal)]
        while waiting:
            term = waiting.pop()
            if term not in self._terms:
                self._terms[term] = True
                waiting.extend(self._needed(term))
        names = self._program.names_among(list(self._terms))
        self.needed_words = told_words(names, self._roles)

    def _find_causes(self, roles):
        """For each term, the pairs of a role and a term of the end of an edge by which a thing lies within it."""
        causes = {}
        for role in roles:
            for term in self._program.terms:
                for conclusion, _ in self._program.lifts(role, term):
                    causes.setdefault(conclusion, []).append((role, term))
        return causes

    def _find_below(self):
        """For each term, the terms that are not nothing and lie within it."""
        below = {}
        for term in self._program.terms:
            if not self._table.is_dead(self._table.of_number(term)):
                for upper in bits(self._table.of_number(term)):
                    below.setdefault(upper, []).append(term)
        return below

    def _needed(self, term):
        """The terms by which something can lie within a term; notes the roles of edges that can lead to it."""
        found = list(self._below.get(term, []))
        if self._program.table.roles[term] is None:
            found.extend(self._program.table.within[term])
        for role, other in self._causes.get(term, []):
            self._roles[role] = True
            found.append(other)
        return found
