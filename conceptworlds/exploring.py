"""The rules of a hidden world, found out from an expert who refutes by things of it."""

from conceptworlds.concepts import need_words, text_of
from conceptworlds.inclusions import find_rules
from conceptworlds.leanest import leanest
from conceptworlds.worlds import World, told_part


def _put_world(known, world, words):
    """A world with the things of a known one, None at the beginning, and of a new one, as far as told words tell."""
    names, edges, part = [], [], told_part(world, words)
    if known is not None:
        names, edges = known.names(), known.edges()
    first = len(names)
    edges.extend([(first + thing, role, first + end) for thing, role, end in part.edges()])
    return leanest(World([*names, *part.names()], edges))


def explore(words, expert):
    """Concept rules from which just those inclusions follow that hold in the hidden world.

    Each rule that is asked holds in all that is known of the hidden world. So a thing that refutes it is alike to
    none that is known, and each time that a rule is refuted a new class of things becomes known.
    """
    need_words(words)
    known, rules, agreed, at = None, [("within", "all", "none")], {}, 0
    while at < len(rules):
        _, concept, other = rules[at]
        asked = text_of(concept), text_of(other)
        refuted = None if asked in agreed else expert(concept, other)
        if refuted is None:
            agreed[asked] = True
            at = at + 1
        else:
            known = _put_world(known, refuted[0], words)
            rules, at = find_rules(known.graph(), words, [])[0], 0
    return rules
