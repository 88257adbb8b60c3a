"""Which names of things of data are missing, so that a thing would certainly be in a concept."""

from conceptworlds.answering import keeps_data
from conceptworlds.books import keeps_all, need_book
from conceptworlds.concepts import are_words, need_concept
from conceptworlds.datakinds import DataKinds, data_world
from conceptworlds.errors import BadWords, TooLarge
from conceptworlds.graphs import bits
from conceptworlds.kindtables import KindTable
from conceptworlds.worlds import World, need_thing, need_world

MOST_ADDITIONS = 8


def _need_question(book, data, concept, thing, names):
    """Refuses what is not a book, data, a concept, a thing, and names; returns the additions, in ascending order."""
    need_book(book)
    need_world(data)
    need_concept(concept)
    need_thing(thing, data)
    if not are_words(names):
        raise BadWords("not an ascending tuple of names")
    additions = [(one, name) for one, row in enumerate(data.names()) for name in names if name not in row]
    if len(additions) > MOST_ADDITIONS:
        raise TooLarge("there are more than 8 additions")
    return additions


class Supposing:
    """What all sets of some additions do, by their numbers: bit k of such a number stands for addition k."""

    def __init__(self, book, data, concept, thing, additions):
        self._additions = additions
        table = KindTable(book, [concept])
        goal = table.bit_of(concept)
        self.kinds = [DataKinds(table, data)]
        for number in range(1, 1 << len(additions)):
            last = number.bit_length() - 1
            one, name = additions[last]
            self.kinds.append(self.kinds[number ^ 1 << last].with_name(one, name))
        self._enough = [bool(found.kind(thing) & goal) or not found.are_possible() for found in self.kinds]

    def told(self, number):
        """The ascending tuple of the additions of a set."""
        return tuple([self._additions[at] for at in bits(number)])

    def least_sets(self, possible):
        """The least sets with which the data are possible, or those with which they are not, in ascending order."""
        found = [number for number in range(len(self.kinds)) if self._is_least(number)]
        return sorted([self.told(number) for number in found if self.kinds[number].are_possible() == possible])

    def largest(self):
        """The list of the largest sets, in the ascending order of their additions."""
        found = [(self.told(number), number) for number in range(len(self.kinds)) if self._is_largest(number)]
        return [number for _, number in sorted(found)]

    def _is_least(self, number):
        """Whether a set is enough, and is not without one of its additions."""
        return self._enough[number] and not [at for at in bits(number) if self._enough[number ^ 1 << at]]

    def _is_largest(self, number):
        """Whether a set is not enough, and is with any one more addition."""
        others = bits((len(self.kinds) - 1) ^ number)
        return not self._enough[number] and not [at for at in others if not self._enough[number | 1 << at]]

    def names(self, number):
        """The names of the things of the data, with the additions of a set, as ascending tuples."""
        rows = [list(row) for row in self.kinds[0].data.names()]
        for one, name in self.told(number):
            rows[one].append(name)
        return [tuple(sorted(row)) for row in rows]


class Missing:
    """The least additions that explain a concept, or clash, and the largest ones that do neither."""

    def __init__(self, explains, clashes, unknown):
        self.explains = list(explains)
        self.clashes = list(clashes)
        self.unknown = list(unknown)

    def __eq__(self, other):
        if not isinstance(other, Missing) or self.explains != other.explains:
            return False
        return self.clashes == other.clashes and self.unknown == other.unknown

    def shows(self, book, data, concept, thing, names):
        """Whether these are the additions, with right worlds."""
        additions = _need_question(book, data, concept, thing, names)
        found = Supposing(book, data, concept, thing, additions)
        if list(self.explains) != found.least_sets(True) or list(self.clashes) != found.least_sets(False):
            return False
        largest = found.largest()
        if [told for told, _ in self.unknown] != [found.told(number) for number in largest]:
            return False
        for number, (_, world) in zip(largest, self.unknown):
            if not keeps_data(world, World(found.names(number), data.edges())):
                return False
            if not keeps_all(world.graph(), book) or world.graph().holding(concept) >> thing & 1:
                return False
        return True


def missing(book, data, concept, thing, names):
    """The additions of told names to data by which a thing is a certain answer to a concept, or the data impossible."""
    additions = _need_question(book, data, concept, thing, names)
    found = Supposing(book, data, concept, thing, additions)
    unknown = []
    for number in found.largest():
        unknown.append((found.told(number), data_world(found.kinds[number], found.names(number), [])))
    return Missing(found.least_sets(True), found.least_sets(False), unknown)
