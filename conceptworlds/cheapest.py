"""The cheapest concept that is equal to a told concept by a book."""

from conceptworlds.books import book_words, need_book
from conceptworlds.concepts import collect_words, inner, is_in_words, need_concept, text_of, told_words
from conceptworlds.deciding import lies_within
from conceptworlds.errors import IsNothing
from conceptworlds.kindtables import KindTable
from conceptworlds.prices import need_word_prices
from conceptworlds.pricing import Pricing
from conceptworlds.toldworlds import telling_world
from conceptworlds.worlds import is_thing


def _need_question(book, told, names, roles):
    """Refuses what is not a book, a concept that is not nothing by it, and prices; returns all words."""
    need_book(book)
    need_concept(told)
    words = _all_words(book, told)
    need_word_prices(names, words[0])
    need_word_prices(roles, words[1])
    if lies_within(book, told, "none"):
        raise IsNothing("the told concept is nothing by the book")
    return words


def _all_words(book, told):
    """The words of a book and of a concept, as told words."""
    known = book_words(book)
    names, roles = {name: True for name in known[0]}, {role: True for role in known[1]}
    collect_words(told, names, roles)
    return told_words(names, roles)


def _price(concept, names, roles):
    """The price of a concept."""
    if isinstance(concept, str):
        return 0 if concept in ("all", "none") else names[concept]
    total = roles[concept[1]] if concept[0] == "some" else 0
    for part in inner(concept):
        total = total + _price(part, names, roles)
    return total


class Bounds:
    """The numbers of some bounds, by their things and kinds as sets of terms, and what is asked of them."""

    def __init__(self, book, told, bounds):
        self.table = KindTable(book, [told])
        self.world, terms = telling_world(self.table.program, self.table.saturation)
        self.told_thing = terms.index(told)
        self._order = self.table.program.in_order(list(self.table.program.terms))
        self._places = {text_of(self.table.program.concept_of(term)): term for term in self._order}
        self.least = [{} for _ in range(len(self.world))]
        self.are_right = self._read(bounds)

    def _read(self, bounds):
        """Reads the bounds; returns whether they are ascending triples of a thing, a kind, and a number."""
        keys = []
        for thing, told, number in bounds:
            texts = [text_of(concept) for concept in told]
            if not is_thing(thing, len(self.world)) or [one for one in texts if one not in self._places]:
                return False
            terms, mask = [self._places[one] for one in texts], 0
            for term in terms:
                mask = mask | self.table.of_number(term)
            if not terms or terms != [term for term in self._order if self.table.close(mask) >> term & 1]:
                return False
            keys.append((thing, tuple(texts)))
            self.least[thing][self.table.close(mask)] = number
        return not [at for at in range(1, len(keys)) if not keys[at - 1] < keys[at]]

    def begin(self):
        """Whether each thing has a bound of at most 0 for the kind of all."""
        top = self.table.of_term("all")
        return not [rows for rows in self.least if rows.get(top, 1) > 0]

    def are_closed(self, names, roles):
        """Whether there are the bounds that names and edges ask for."""
        rows = self.world.names()
        for thing, row in enumerate(rows):
            if not self._allow(thing, [(self.table.of_term(name), names[name]) for name in row]):
                return False
        for thing, role, end in self.world.edges():
            led = {}
            for kind, number in self.least[end].items():
                lifted = self.table.lift(role, kind)
                led[lifted] = min(number + roles[role], led.get(lifted, number + roles[role]))
            if not self._allow(thing, list(led.items())):
                return False
        return True

    def _allow(self, thing, pieces):
        """Whether there are the bounds of a thing that pieces, pairs of a kind and a price, ask for."""
        least = self.least[thing]
        for kind, number in least.items():
            for other, price in pieces:
                joint = self.table.meet(kind, other)
                if joint not in least or least[joint] > number + price:
                    return False
        return True


class Cheapest:
    """A concept that is equal to a told concept, and bounds by which no cheaper one is."""

    def __init__(self, concept, bounds):
        self.concept = concept
        self.bounds = list(bounds)

    def __eq__(self, other):
        return isinstance(other, Cheapest) and self.concept == other.concept and self.bounds == other.bounds

    def shows(self, book, told, names, roles):
        """Whether the concept is equal to the told one, and the bounds show that no cheaper one is."""
        words = _need_question(book, told, names, roles)
        if not is_in_words(self.concept, words):
            return False
        if not lies_within(book, self.concept, told) or not lies_within(book, told, self.concept):
            return False
        found = Bounds(book, told, self.bounds)
        if not found.are_right or not found.begin() or not found.are_closed(names, roles):
            return False
        price, goal = _price(self.concept, names, roles), found.table.bit_of(told)
        return not [kind for kind, number in found.least[found.told_thing].items() if kind & goal and number < price]


def cheapest(book, told, names, roles):
    """The cheapest concept that is equal to a told concept."""
    _need_question(book, told, names, roles)
    table = KindTable(book, [told])
    world, terms = telling_world(table.program, table.saturation)
    pricing = Pricing(table, world, names, roles)
    pricing.run()
    order = table.program.in_order(list(table.program.terms))
    kinds = {}
    for _, kind in pricing.costs:
        kinds[kind] = tuple([place for place, term in enumerate(order) if kind >> term & 1])
    concepts = [table.program.concept_of(term) for term in order]
    rows = sorted([(thing, kinds[kind], cost[0]) for (thing, kind), cost in pricing.costs.items()])
    bounds = [(thing, tuple([concepts[place] for place in places]), number) for thing, places, number in rows]
    start, goal = terms.index(told), table.bit_of(told)
    equal = [(cost, kind) for (thing, kind), cost in pricing.costs.items() if thing == start and kind & goal]
    return Cheapest(pricing.concepts[start, min(equal)[1]], bounds)
