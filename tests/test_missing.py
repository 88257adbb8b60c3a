"""[32] Missing facts."""

import copy
import itertools
import unittest

from conceptworlds.answering import answer, Answers
from conceptworlds.books import broken_rules
from conceptworlds.errors import BadBook, BadConcept, BadThing, BadWords, BadWorld, TooLarge
from conceptworlds.missing import Missing, missing
from conceptworlds.worlds import World
from tests.support import OTHERS, Chance, rename, slow_things, somes
from tests.test_answering import keeps_data
from tests.test_plain import BAD_CONCEPTS
from tests.test_wordrules import BAD_WORLDS

BOOK = [("within", ("and", "a", ("some", "r", "b")), "c"), ("within", ("and", "a", "d"), "none")]
DATA = World([(), ("d",)], [(0, "r", 1)])
BAD_NAMES = [None, 1, True, "a", ["a"], ("b", "a"), ("a", "a"), ("A",), ("all",), (1,), (("a",), ()), {}, ("a", None)]


def with_names(data, additions):
    """Data with more names."""
    rows = [tuple(sorted({*row, *[name for thing, name in additions if thing == x]})) for x, row in enumerate(data.names())]
    return World(rows, data.edges())


def all_sets(data, names):
    additions = [(x, name) for x, row in enumerate(data.names()) for name in names if name not in row]
    return [told for many in range(len(additions) + 1) for told in itertools.combinations(additions, many)]


def slow_missing(book, data, concept, thing, names):
    """The three lists of sets of additions, by the words of the document."""
    enough, possible = {}, {}
    for told in all_sets(data, names):
        found = answer(book, with_names(data, told), concept)
        possible[told] = isinstance(found, Answers)
        enough[told] = not possible[told] or thing in found.things
    least = [one for one in enough if enough[one] and not any(enough[other] for other in enough if set(other) < set(one))]
    largest = [one for one in enough if not enough[one] and all(enough[other] for other in enough if set(other) > set(one))]
    return sorted(one for one in least if possible[one]), sorted(one for one in least if not possible[one]), sorted(largest)


def is_right(found, book, data, concept, thing, names):
    """Whether a Missing is as described, by the words of the document."""
    if (found.explains, found.clashes, [one for one, _ in found.unknown]) != slow_missing(book, data, concept, thing, names):
        return False
    return all(keeps_data(world, with_names(data, told)) and not broken_rules(book, world)
               and thing not in slow_things(world, concept) for told, world in found.unknown)


class MissingFacts(unittest.TestCase):
    def test_ordinary(self):
        found = missing(BOOK, DATA, "c", 0, ("a", "b"))
        self.assertEqual(found.explains, [((0, "a"), (1, "b"))])
        self.assertEqual(found.clashes, [((1, "a"),)])
        self.assertEqual([told for told, _ in found.unknown], [((0, "a"), (0, "b")), ((0, "b"), (1, "b"))])
        self.assertTrue(is_right(found, BOOK, DATA, "c", 0, ("a", "b")))

    def test_no_names(self):
        found = missing(BOOK, DATA, "c", 0, ())
        self.assertEqual((found.explains, found.clashes, [told for told, _ in found.unknown]), ([], [], [()]))
        self.assertEqual(missing(BOOK, DATA, "all", 0, ()), Missing([()], [], []))
        self.assertEqual(missing(BOOK, DATA, "d", 1, ("d",)).explains, [()])

    def test_already_an_answer(self):
        for names in [(), ("a",), ("a", "b", "c", "d")]:
            self.assertEqual(missing([], DATA, "d", 1, names), Missing([()], [], []))
            self.assertEqual(missing([("within", "d", "z")], DATA, somes(1, "z"), 0, names), Missing([()], [], []))

    def test_not_possible_at_all(self):
        for book in ([("within", "d", "none")], [("within", "all", "none")], [("within", somes(1, "d"), "none")]):
            for names in [(), ("a", "b")]:
                self.assertEqual(missing(book, DATA, "all", 0, names), Missing([], [()], []))
                self.assertEqual(missing(book, DATA, "none", 0, names), Missing([], [()], []))

    def test_none_in_the_concept(self):
        found = missing(BOOK, DATA, ("some", "r", "none"), 0, ("a", "d"))
        self.assertEqual((found.explains, found.clashes), ([], [((0, "a"), (0, "d")), ((1, "a"),)]))
        self.assertTrue(is_right(found, BOOK, DATA, ("some", "r", "none"), 0, ("a", "d")))

    def test_other_things(self):
        found = missing([], DATA, somes(1, "b"), 0, ("b",))
        self.assertEqual((found.explains, [told for told, _ in found.unknown]), ([((1, "b"),)], [((0, "b"),)]))
        found = missing([("itself", "r")], DATA, somes(1, "b"), 0, ("b",))
        self.assertEqual((found.explains, [told for told, _ in found.unknown]), ([((0, "b"),), ((1, "b"),)], [()]))
        self.assertEqual(missing([], DATA, "zz", 0, ("b",)).explains, [])
        self.assertEqual(missing([], World([("r",)], [(0, "r", 0)]), somes(1, "s"), 0, ("r", "s")).explains, [((0, "s"),)])

    def test_order(self):
        found = missing([("within", "a", "c"), ("within", ("and", "b", "d"), "c")], World([()], []), "c", 0, ("a", "b", "c", "d"))
        self.assertEqual(found.explains, [((0, "a"),), ((0, "b"), (0, "d")), ((0, "c"),)])
        self.assertEqual([told for told, _ in found.unknown], [((0, "b"),), ((0, "d"),)])

    def test_limit(self):
        names = tuple("abcdefgh")
        found = missing([], World([()], []), ("and", *names), 0, names)
        self.assertEqual(found.explains, [tuple((0, name) for name in names)])
        self.assertEqual(len(found.unknown), 8)
        self.assertTrue(found.shows([], World([()], []), ("and", *names), 0, names))
        data = World([("a",)] * 300 + [()] * 8, [(0, "r", x) for x in range(308)])
        found = missing([], data, ("some", "r", ("and", "a", "b")), 0, ("a",))
        self.assertEqual((found.explains, len(found.unknown)), ([], 1))
        for data, more in [(World([()], []), tuple("abcdefghi")), (World([()] * 9, []), ("a",)), (World([("a",), (), ()], []), tuple("abc"))]:
            if len(all_sets(data, more)) > 256:
                for function in (missing, Missing([], [], []).shows):
                    with self.assertRaises(TooLarge):
                        function([], data, "a", 0, more)
        self.assertEqual(len(all_sets(World([("a",), (), ()], []), tuple("abc"))), 256)
        missing([], World([("a",), (), ()], []), "a", 0, tuple("abc"))

    def test_by_chance(self):
        kinds = [0, 0, 0]
        for seed in range(130):
            chance = Chance(seed, names=("a", "b", "c"))
            book, data, concept = chance.book(6), chance.world(3, 0.3), chance.concept(2, seed % 4 == 0)
            book += [("within", chance.concept(1, False), "none")] if seed % 3 == 0 else []
            thing, names = chance.random.randrange(len(data)), chance.some_of(("a", "b", "c"))
            if len(all_sets(data, names)) > 64:
                names = names[:1]
            found = missing(book, data, concept, thing, names)
            self.assertTrue(found.shows(book, data, concept, thing, names))
            self.assertTrue(is_right(found, book, data, concept, thing, names))
            kinds = [one + bool(more) for one, more in zip(kinds, (found.explains, found.clashes, found.unknown))]
            for told in all_sets(data, names):
                least = any(set(one) <= set(told) for one in found.explains + found.clashes)
                largest = any(set(told) <= set(one) for one, _ in found.unknown)
                self.assertNotEqual(least, largest)
            other = missing(rename(book, OTHERS), rename(data, OTHERS), rename(concept, OTHERS), thing,
                            tuple(sorted(OTHERS[name] for name in names)))
            renamed = [sorted(tuple(sorted((x, OTHERS[name]) for x, name in told)) for told in one)
                       for one in (found.explains, found.clashes, [told for told, _ in found.unknown])]
            self.assertEqual(renamed, [other.explains, other.clashes, [told for told, _ in other.unknown]])
        self.assertGreater(min(kinds), 20)


class Shows(unittest.TestCase):
    def setUp(self):
        self.arguments = BOOK, DATA, "c", 0, ("a", "b")
        self.found = missing(*self.arguments)

    def check(self, explains, clashes, unknown, right=False):
        self.assertIs(Missing(explains, clashes, unknown).shows(*self.arguments), right)

    def test_additions(self):
        explains, clashes, unknown = self.found.explains, self.found.clashes, self.found.unknown
        self.check(explains, clashes, unknown, True)
        self.check(tuple(explains), tuple(clashes), tuple(unknown), True)
        self.check([], clashes, unknown)
        self.check(explains, [], unknown)
        self.check(explains, clashes, [])
        self.check(clashes, explains, unknown)
        self.check(explains * 2, clashes, unknown)
        self.check(explains, [*clashes, ((0, "a"), (1, "a"))], unknown)
        self.check([((1, "b"), (0, "a"))], clashes, unknown)
        self.check([((0, "a"),)], clashes, unknown)
        self.check([((0, "a"), (0, "b"), (1, "b"))], clashes, unknown)
        self.check(explains, [((1, "b"),)], unknown)
        self.check(explains, [((1, "d"),)], unknown)
        self.check(explains, [((7, "a"),)], unknown)
        self.check(explains, clashes, unknown[::-1])
        self.check(explains, clashes, unknown[:1])
        self.check(explains, clashes, unknown * 2)
        self.check(explains, clashes, [(unknown[0][0][::-1], unknown[0][1]), unknown[1]])
        self.check(explains, clashes, [(unknown[0][0][:1], unknown[0][1]), unknown[1]])

    def test_worlds(self):
        explains, clashes, unknown = self.found.explains, self.found.clashes, self.found.unknown
        told, world = unknown[0]
        names, edges = world.names(), world.edges()
        for more, right in [(World([("a", "b"), ("d",)], DATA.edges()), True), (World([("a", "b"), ("d", "e"), ("c",)], DATA.edges()), True),
                            (World([("a", "b"), ("d",)], []), False), (World([("a",), ("d",)], DATA.edges()), False), (World([("a", "b"), ()], DATA.edges()), False),
                            (World([("a", "b"), ("b", "d")], DATA.edges()), False), (World([("a", "b", "c"), ("d",)], DATA.edges()), False),
                            (World([("a", "b"), ("a", "d")], DATA.edges()), False), (World([("a", "b")], []), False), (unknown[1][1], False)]:
            self.check(explains, clashes, [(told, more), unknown[1]], right)
        self.check(explains, clashes, [(told, World(names, edges)), unknown[1]], True)

    def test_altered_by_chance(self):
        for seed in range(60):
            chance = Chance(seed)
            book, data, concept = chance.book(5), chance.world(2, 0.4), chance.concept(1, False)
            arguments = book, data, concept, 0, chance.some_of(("a", "b"))
            found = missing(*arguments)
            for at, (told, world) in enumerate(found.unknown):
                names = [tuple(one for one in row if chance.random.random() < 0.8) for row in world.names()]
                edges = [edge for edge in world.edges() if chance.random.random() < 0.8]
                other = Missing(found.explains, found.clashes, [*found.unknown[:at], (told, World(names, edges)), *found.unknown[at + 1:]])
                self.assertIs(other.shows(*arguments), is_right(other, *arguments))

    def test_new_each_time(self):
        before = copy.deepcopy(self.found)
        for one in (self.found.explains, self.found.clashes, self.found.unknown):
            one.append("spoilt")
        self.assertEqual(missing(*self.arguments), before)
        self.assertNotEqual(self.found, before)
        self.assertEqual(DATA, World([(), ("d",)], [(0, "r", 1)]))
        self.assertNotEqual(Missing([()], [], []), Missing([], [()], []))


class Refusals(unittest.TestCase):
    def test_in_order(self):
        wide = tuple("abcdefghi")
        for function in (missing, Missing([], [], []).shows):
            for bad in [None, 1, True, "a", {}, [None]]:
                with self.assertRaises(BadBook):
                    function(bad, None, None, None, None)
            for bad in BAD_WORLDS:
                with self.assertRaises(BadWorld):
                    function(BOOK, bad, None, None, None)
            for bad in BAD_CONCEPTS:
                with self.assertRaises(BadConcept):
                    function(BOOK, DATA, bad, None, None)
            for bad in [None, True, False, -1, 2, "0", (0,), 10 ** 30, [0]]:
                with self.assertRaises(BadThing):
                    function(BOOK, DATA, "a", bad, None)
                with self.assertRaises(BadThing):
                    function(BOOK, DATA, "a", bad, wide)
            for bad in BAD_NAMES:
                with self.assertRaises(BadWords):
                    function(BOOK, DATA, "none", 0, bad)
            with self.assertRaises(TooLarge):
                function(BOOK, DATA, "none", 0, wide)


if __name__ == "__main__":
    unittest.main()
