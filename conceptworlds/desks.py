"""Desks: a book and data that are changed, with trials."""

from conceptworlds.books import is_rule, need_book
from conceptworlds.concepts import is_word, need_concept
from conceptworlds.datakinds import DataKinds
from conceptworlds.errors import BadBook, BadIndex, BadThing, BadWords, NotPossible
from conceptworlds.graphs import lies_in
from conceptworlds.kindtables import KindTable
from conceptworlds.worlds import World, is_thing, need_world


def _need_word(thing):
    """Refuses what is no word."""
    if not is_word(thing):
        raise BadWords("not a word")


class Sheet:
    """The rules and the data that a desk has at a time: for each thing a dict of its names, and a dict of the edges."""

    def __init__(self, rules, names, edges):
        self.rules = list(rules)
        self.names_of = [{name: True for name in row} for row in names]
        self.edges_of = {edge: True for edge in edges}

    def again(self):
        """The same once more, to be changed by itself."""
        return Sheet(self.rules, self.names_of, self.edges_of)

    def made_world(self):
        """The data."""
        return World([tuple(sorted(row)) for row in self.names_of], sorted(self.edges_of))


class Desk:
    """A book and data that are changed, and what follows from them.

    During a trial, kept is the sheet to which the desk goes back when the trial has ended.
    """

    def __init__(self, book, data):
        need_book(book)
        need_world(data)
        self._sheet = Sheet(book, data.names(), data.edges())
        self._kept = None

    def rules_now(self):
        """A new list of the rules."""
        return list(self._sheet.rules)

    def data_now(self):
        """The data."""
        return self._sheet.made_world()

    def put(self, rule):
        """Puts a rule behind the others."""
        if not is_rule(rule):
            raise BadBook(0)
        self._sheet.rules.append(rule)

    def take(self, index):
        """Takes a rule away, and returns it."""
        if not is_thing(index, len(self._sheet.rules)):
            raise BadIndex("not the index of a rule")
        rule = self._sheet.rules[index]
        del self._sheet.rules[index]
        return rule

    def add_thing(self, *names):
        """Adds a thing with some names, and returns its number."""
        for name in names:
            _need_word(name)
        self._sheet.names_of.append({name: True for name in names})
        return len(self._sheet.names_of) - 1

    def _need_thing(self, thing):
        """Refuses what is not a thing of the data."""
        if not is_thing(thing, len(self._sheet.names_of)):
            raise BadThing("not a thing of the data")

    def add_name(self, thing, name):
        """Adds a name to a thing, if it is not there already."""
        self._need_thing(thing)
        _need_word(name)
        self._sheet.names_of[thing][name] = True

    def add_edge(self, thing, role, other):
        """Adds an edge, if it is not there already."""
        self._need_thing(thing)
        self._need_thing(other)
        _need_word(role)
        self._sheet.edges_of[thing, role, other] = True

    def answers(self, concept):
        """The ascending list of the certain answers to a concept."""
        need_concept(concept)
        table = KindTable(self._sheet.rules, [concept])
        kinds = DataKinds(table, self._sheet.made_world())
        if not kinds.are_possible():
            raise NotPossible("the data are not possible")
        goal = table.bit_of(concept)
        return [thing for thing in range(len(kinds.data)) if lies_in(goal, kinds.kind(thing))]

    def trial(self, work):
        """Calls a function with the desk; then the desk is as it was before, or as it was when it was kept last."""
        outer = self._kept
        self._kept = self._sheet
        self._sheet = self._sheet.again()
        try:
            return work(self)
        finally:
            self._sheet = self._kept
            self._kept = outer

    def keep(self):
        """Keeps the desk as it is now, for the end of the innermost trial."""
        if self._kept is not None:
            self._kept = self._sheet.again()
