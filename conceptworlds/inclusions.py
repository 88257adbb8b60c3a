"""Concept rules from which all inclusions follow that hold in a world, for concepts in told words."""

from conceptworlds.books import keeps
from conceptworlds.concepts import conjoin, size_of
from conceptworlds.graphs import lies_in
from conceptworlds.growing import Growing
from conceptworlds.smallest import Smallest


def _common(one, other):
    """The things that two sets have in common."""
    return one & other


def smallest_extents(graph, words):
    """For each set of things of a concept in told words without none, such a concept of least size."""
    names, roles = words
    smallest = Smallest(roles, _common, graph.behind)
    smallest.offer(graph.everything, 0, ())
    for name in names:
        smallest.offer(graph.named.get(name, 0), 1, (name,))
    smallest.run()
    return smallest


def kept_role_rules(graph, roles):
    """The ascending list of the role rules in told roles that a world keeps, without those below themselves."""
    rules = [("below", role, other) for role in roles for other in roles if role != other]
    rules.extend([("itself", role) for role in roles])
    rules.extend([("passes", role) for role in roles])
    return [rule for rule in rules if keeps(graph, rule)]


def _equalities(graph, words, smallest):
    """Pairs of a concept and of the chosen concept with the same things; the second one is of no greater size."""
    names, roles = words
    pairs = [(name, graph.named.get(name, 0)) for name in names]
    for value in smallest.pieces:
        concept = smallest.chosen(value)
        pairs.extend([(("some", role, concept), graph.behind(role, value)) for role in roles])
    return [(concept, smallest.chosen(value)) for concept, value in pairs]


def _candidates(graph, words, smallest):
    """Rules, as pairs of pieces and a concept, from which all inclusions follow that hold in the world.

    By the equalities each name, and each some of a chosen concept, is a chosen concept. By the others the
    and of a chosen concept and one with a single piece is a chosen one, and so is that of any two.
    """
    found = []
    for concept, chosen in _equalities(graph, words, smallest):
        if concept != chosen:
            found.append(((concept,), chosen))
            found.append(((chosen,), concept))
    for value, pieces in smallest.pieces.items():
        for single in smallest.singles:
            piece = smallest.chosen(single)
            if lies_in(value, single):
                found.append(((smallest.chosen(value),), piece))
            elif pieces:
                found.append(((*pieces, piece), smallest.chosen(value & single)))
    if 0 in smallest.pieces:
        found.append(((smallest.chosen(0),), "none"))
    sizes = [sum([size_of(one) for one in pieces]) + size_of(other) for pieces, other in found]
    order = sorted([(told, place) for place, told in enumerate(sizes)])
    return [found[place] for _, place in order]


def find_rules(graph, words, role_rules):
    """Concept rules, none of which follows from the others and from role rules, these behind them, and concepts.

    By the rules, each concept in told words is equal to one of these concepts, or it is nothing. First each
    candidate is taken that does not follow from those before, and then all that are not needed are left out.
    """
    smallest = smallest_extents(graph, words)
    chosen = [smallest.chosen(value) for value in smallest.pieces]
    somes = [("some", role, concept) for role in words[1] for concept in chosen]
    growing, rules = Growing(role_rules, [*words[0], *chosen, *somes]), []
    for pieces, concept in _candidates(graph, words, smallest):
        premises, conclusion = growing.numbers(pieces), growing.numbers([concept])[0]
        if not growing.has(premises, conclusion):
            growing.take(growing.put(premises, conclusion))
            rules.append(("within", conjoin(pieces), concept))
    growing.take_back_all()
    needed = growing.needed(0, len(rules))
    return [*[rules[number] for number in needed], *role_rules], chosen


def are_needed(rules, role_rules):
    """Whether none of some concept rules follows from the others and from role rules."""
    growing = Growing(role_rules, [concept for rule in rules for concept in rule[1:]])
    for _, concept, other in rules:
        growing.put(growing.numbers([concept]), growing.numbers([other])[0])
    return len(growing.needed(0, len(rules))) == len(rules)
