"""Whether a book says, in told words, all that another one says."""

from conceptworlds.books import need_book
from conceptworlds.concepts import conjoin, depth_of, is_in_words, need_words
from conceptworlds.deciding import decide, leading_world, lies_within
from conceptworlds.graphs import bits
from conceptworlds.losing import LossSearch
from conceptworlds.parting import Parting
from conceptworlds.standings import need_same_roles
from conceptworlds.standingtables import StandingTable


def _need_question(first, second, words):
    """Refuses what is not two books with the same role rules, and told words."""
    need_book(first)
    need_book(second)
    need_same_roles(first, second)
    need_words(words)


class Says:
    """Concepts in told words without a loss, so that what can be made of them has their standings."""

    def __init__(self, concepts):
        self.concepts = list(concepts)

    def __eq__(self, other):
        return isinstance(other, Says) and self.concepts == other.concepts

    def shows(self, first, second, words):
        """Whether the concepts are as described.

        All concepts in told words without none are made of all and the told names, and all others are nothing.
        So the list is closed exactly if it has the standings of all concepts in told words without none.
        """
        _need_question(first, second, words)
        for concept in self.concepts:
            if not is_in_words(concept, words):
                return False
        if [name for name in ("all", *words[0]) if name not in self.concepts]:
            return False
        table = StandingTable(first, second, words)
        known = {table.of(concept): True for concept in self.concepts}
        for standing in known:
            if table.has_loss(standing):
                return False
        search = table.all_standings()
        standing = search.advance()
        while standing is not None and standing in known:
            standing = search.advance()
        return standing is None


class Loses:
    """Two concepts in told words, of which the first lies within the other by one book, not by another one."""

    def __init__(self, concept, other):
        self.concept = concept
        self.other = other

    def __eq__(self, other):
        return isinstance(other, Loses) and self.concept == other.concept and self.other == other.other

    def shows(self, first, second, words):
        """Whether the concept lies within the other one by the first book alone, and has the least depth."""
        _need_question(first, second, words)
        if not is_in_words(self.concept, words) or not is_in_words(self.other, words):
            return False
        if not lies_within(first, self.concept, self.other) or lies_within(second, self.concept, self.other):
            return False
        search = LossSearch(StandingTable(first, second, words), words)
        search.run()
        return search.depth == depth_of(self.concept)


def _lost_some(second, words, concept, world, pair):
    """A some that a concept does not lie within by the second book, for a pair of a role and a thing of a world.

    For each thing to which the concept leads by the role there is a concept that has the thing of the
    world and does not have this one: what is said there are all of these.
    """
    role, thing = pair
    program, saturation = decide(second, concept, [])
    led = leading_world(program, saturation)
    pieces, held = [], led.graph().everything
    for end in bits(led.graph().targets(role, 0)):
        if held >> end & 1:
            pieces.append(Parting(world, thing, led, end, words).refutation())
            held = held & led.graph().holding(pieces[-1])
    return "some", role, conjoin(pieces)


def find_loss(first, second, words):
    """A Loses, if the second book does not say in told words all that the first one says, and otherwise None."""
    table = StandingTable(first, second, words)
    search = LossSearch(table, words)
    search.run()
    if search.concept is None:
        return None
    standing = table.of(search.concept)
    names = table.lost_names(standing)
    if names:
        return Loses(search.concept, names[0])
    return Loses(search.concept, _lost_some(second, words, search.concept, table.world, table.lost_pairs(standing)[0]))


def list_standings(first, second, words):
    """A Says for two books of which the second one says all that the first one says."""
    table = StandingTable(first, second, words)
    search = table.all_standings()
    search.run()
    known = {table.of_name(name): True for name in ("all", *words[0])}
    others = [search.chosen(standing) for standing in search.pieces if standing not in known]
    return Says(["all", *words[0], *others])


def says(first, second, words):
    """A Says, if the second book says in told words all that the first one says, and otherwise a Loses."""
    _need_question(first, second, words)
    loses = find_loss(first, second, words)
    return list_standings(first, second, words) if loses is None else loses
