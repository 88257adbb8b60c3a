"""The rules of a world in told words, and the sets of things that concepts in them have."""

from conceptworlds.books import is_book, keeps_all
from conceptworlds.concepts import is_in_words, is_without_none, need_words
from conceptworlds.graphs import bits, lies_in
from conceptworlds.inclusions import are_needed, find_rules, kept_role_rules, smallest_extents
from conceptworlds.kindtables import KindTable
from conceptworlds.worlds import need_world


def _is_closed(table, concepts, words):
    """Whether what can be made of some concepts is equal to one of them, by the book of a table of kinds."""
    masks = [table.of_term(concept) for concept in concepts]
    known = {mask: True for mask in masks}
    for concept in ["all", *words[0]]:
        if table.of_term(concept) not in known:
            return False
    for at, mask in enumerate(masks):
        for role in words[1]:
            if table.of_term(("some", role, concepts[at])) not in known:
                return False
        for other in masks[:at]:
            if table.meet(mask, other) not in known:
                return False
    return True


def _all_follow(table, concepts, graph):
    """Whether all inclusions of some concepts that hold in a world follow by the book of a table of kinds."""
    held = [graph.holding(concept) for concept in concepts]
    for at, concept in enumerate(concepts):
        if not held[at] and table.of_term(concept) != table.everything:
            return False
        for other, extent in zip(concepts, held):
            if lies_in(held[at], extent) and not table.has(concept, other):
                return False
    return True


class WorldRules:
    """Rules in told words from which just those inclusions follow that hold in a world."""

    def __init__(self, rules, concepts):
        self.rules = list(rules)
        self.concepts = list(concepts)

    def __eq__(self, other):
        return isinstance(other, WorldRules) and self.rules == other.rules and self.concepts == other.concepts

    def shows(self, world, words):
        """Whether the rules and the concepts are as described for a world and told words."""
        need_world(world)
        need_words(words)
        graph = world.graph()
        if not is_book(self.rules) or not keeps_all(graph, self.rules):
            return False
        rules = [rule for rule in self.rules if rule[0] == "within"]
        if list(self.rules[len(rules):]) != kept_role_rules(graph, words[1]):
            return False
        for concept in [*self.concepts, *[part for rule in rules for part in rule[1:]]]:
            if not is_in_words(concept, words):
                return False
        if [concept for concept in self.concepts if not is_without_none(concept)]:
            return False
        somes = [("some", role, concept) for role in words[1] for concept in self.concepts]
        table = KindTable(self.rules, [*words[0], *self.concepts, *somes])
        if not _is_closed(table, self.concepts, words) or not _all_follow(table, self.concepts, graph):
            return False
        return are_needed(rules, list(self.rules[len(rules):]))


def rules_of(world, words):
    """The rules of a world in told words."""
    need_world(world)
    need_words(words)
    graph = world.graph()
    rules, concepts = find_rules(graph, words, kept_role_rules(graph, words[1]))
    return WorldRules(rules, concepts)


def extents(world, words):
    """The sets of things of the concepts in told words without none, each with a concept of least size."""
    need_world(world)
    need_words(words)
    smallest = smallest_extents(world.graph(), words)
    found = [(tuple(bits(value)), smallest.chosen(value)) for value in smallest.pieces]
    return sorted(found, key=lambda pair: pair[0])
