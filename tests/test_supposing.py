"""[30] What can be."""

import unittest

from conceptworlds.answering import is_possible
from conceptworlds.books import broken_rules
from conceptworlds.concepts import parts
from conceptworlds.errors import BadBook, BadConcept, BadThing, BadWorld
from conceptworlds.following import follows
from conceptworlds.plain import tree
from conceptworlds.supposing import CanBe, CannotBe, suppose, supposed
from conceptworlds.worlds import World
from tests.support import BAD_BOOKS, OTHERS, Chance, rename, shuffled, slow_things, somes
from tests.test_plain import BAD_CONCEPTS, WITH_NONE
from tests.test_wordrules import BAD_WORLDS

BOOK = [("within", ("and", "a", "b"), "none"), ("within", ("some", "r", "c"), "b")]
DATA = World([("a",), ("c",), ()], [(2, "r", 1)])


def slow_supposed(data, thing, concept):
    """Data with a concept at a thing, by the words of the document."""
    names, edges = [set(row) for row in data.names()], set(data.edges())
    numbers = {0: thing}
    for at, (parent, role, row) in enumerate(tree(concept)):
        if at == 0:
            names[thing] |= set(row)
            continue
        numbers[at] = len(names)
        names.append(set(row))
        edges.add((numbers[parent], role, numbers[at]))
    return World([tuple(sorted(row)) for row in names], sorted(edges))


def is_right(found, book, data, thing, concept):
    """Whether evidence is as described, by the words of the document."""
    if isinstance(found, CannotBe):
        more = supposed(data, thing, concept)
        return ("none" not in parts(found.concept) and follows(book, found.concept, "none")
                and found.thing in slow_things(more, found.concept))
    names = found.world.names()
    return (len(names) >= len(data) and not broken_rules(book, found.world) and set(data.edges()) <= set(found.world.edges())
            and all(set(row) <= set(more) for row, more in zip(data.names(), names)) and thing in slow_things(found.world, concept))


class Supposed(unittest.TestCase):
    def test_order(self):
        concept = ("and", ("some", "s", ("and", "b", ("some", "r", "a"))), "c", ("some", "r", "all"), "a")
        self.assertEqual(supposed(DATA, 0, concept), World([("a", "c"), ("c",), (), ("b",), ("a",), ()], [(0, "r", 5), (0, "s", 3), (2, "r", 1), (3, "r", 4)]))
        self.assertEqual(supposed(DATA, 2, "all"), DATA)
        self.assertEqual(supposed(DATA, 0, "a"), DATA)
        self.assertEqual(supposed(DATA, 2, ("and", "r", "r", "all")), World([("a",), ("c",), ("r",)], DATA.edges()))
        self.assertEqual(supposed(DATA, 2, ("some", "r", "c")), World([("a",), ("c",), (), ("c",)], [(2, "r", 1), (2, "r", 3)]))
        self.assertEqual(supposed(DATA, 1, ("and", somes(1), somes(1))), World([("a",), ("c",), (), ("a",), ("a",)], [(1, "r", 3), (1, "r", 4), (2, "r", 1)]))
        self.assertEqual(len(supposed(DATA, 0, somes(100))), 103)
        self.assertEqual(DATA, World([("a",), ("c",), ()], [(2, "r", 1)]))

    def test_by_chance(self):
        for seed in range(150):
            chance = Chance(seed)
            data, concept = chance.world(4), chance.concept(4, False)
            for thing in range(len(data)):
                found = supposed(data, thing, concept)
                self.assertEqual(found, slow_supposed(data, thing, concept))
                self.assertIn(thing, slow_things(found, concept))

    def test_refusals(self):
        for bad in BAD_WORLDS:
            with self.assertRaises(BadWorld):
                supposed(bad, None, None)
        for bad in [None, True, False, -1, 3, "0", (0,)]:
            with self.assertRaises(BadThing):
                supposed(DATA, bad, None)
        for bad in [*BAD_CONCEPTS, *WITH_NONE]:
            with self.assertRaises(BadConcept):
                supposed(DATA, 0, bad)


class Supposing(unittest.TestCase):
    def test_can_be(self):
        for thing, concept in [(0, "a"), (0, "c"), (1, "a"), (2, "b"), (2, "all"), (1, ("some", "r", "c")), (0, ("some", "s", ("and", "b", ("some", "r", "c"))))]:
            found = suppose(BOOK, DATA, thing, concept)
            self.assertIsInstance(found, CanBe)
            self.assertTrue(is_right(found, BOOK, DATA, thing, concept))

    def test_own_names(self):
        found = suppose(BOOK, DATA, 0, "b")
        self.assertEqual(found, CannotBe(0, found.concept))
        self.assertTrue(is_right(found, BOOK, DATA, 0, "b"))
        self.assertTrue(CannotBe(0, ("and", "a", "b")).shows(BOOK, DATA, 0, "b"))
        self.assertIsInstance(suppose(BOOK, DATA, 2, "a"), CannotBe)
        self.assertIsInstance(suppose(BOOK, DATA, 0, ("some", "r", "c")), CannotBe)
        self.assertIsInstance(suppose([("within", "b", "none")], DATA, 0, "b"), CannotBe)

    def test_things_further_on(self):
        data = World([("a",), (), ()], [(0, "r", 1), (1, "r", 2)])
        book = [("within", ("and", "a", somes(2, "c")), "none")]
        found = suppose(book, data, 2, "c")
        self.assertEqual((found.thing, type(found)), (0, CannotBe))
        self.assertIsInstance(suppose(book, data, 1, "c"), CanBe)
        self.assertIsInstance(suppose([*book, ("passes", "r")], data, 1, ("some", "r", "c")), CannotBe)
        book = [("within", "d", ("some", "r", "e")), ("within", somes(1, "e"), "f"), ("within", ("and", "f", "g"), "none")]
        self.assertEqual(suppose(book, data, 1, ("some", "s", ("and", "d", "g"))).thing, 3)
        self.assertIsInstance(suppose(book, data, 1, ("some", "s", ("and", "e", "g"))), CanBe)

    def test_data_that_are_not_possible(self):
        book = [*BOOK, ("within", "c", "none")]
        for thing in range(3):
            found = suppose(book, DATA, thing, "all")
            self.assertEqual(found.thing, 1)
            self.assertTrue(is_right(found, book, DATA, thing, "all"))
        self.assertEqual(suppose([("within", "all", "none")], World([()], []), 0, "all"), CannotBe(0, "all"))

    def test_by_chance(self):
        found = {CanBe: 0, CannotBe: 0}
        for seed in range(250):
            chance = Chance(seed, names=("a", "b", "c"))
            book, data, concept = chance.book(5), chance.world(3, 0.25), chance.concept(2, False)
            book += [("within", chance.concept(1, False), "none")] if seed % 2 else []
            for thing in range(len(data)):
                evidence = suppose(book, data, thing, concept)
                found[type(evidence)] += 1
                self.assertTrue(evidence.shows(book, data, thing, concept))
                self.assertTrue(is_right(evidence, book, data, thing, concept))
                self.assertIs(isinstance(evidence, CanBe), is_possible(book, supposed(data, thing, concept)))
                self.assertEqual(suppose(book, data, thing, concept), evidence)
                other = suppose(rename(shuffled(book, chance), OTHERS), rename(data, OTHERS), thing, rename(concept, OTHERS))
                self.assertIs(type(other), type(evidence))
        self.assertGreater(min(found.values()), 100)


class Shows(unittest.TestCase):
    def check(self, right, evidence, *question):
        self.assertIs(evidence.shows(*question), right)
        self.assertIs(is_right(evidence, *question), right)

    def test_can_be(self):
        question = BOOK, DATA, 0, ("some", "s", "c")
        world = suppose(*question).world
        names, edges = world.names(), world.edges()
        self.check(True, CanBe(world), *question)
        for at in range(3):
            for name in names[at]:
                fewer = [tuple(one for one in row if (place, one) != (at, name)) for place, row in enumerate(names)]
                self.check(False, CanBe(World(fewer, edges)), *question)
        for edge in edges:
            fewer = CanBe(World(names, [one for one in edges if one != edge]))
            self.check(False if edge in DATA.edges() else is_right(fewer, *question), fewer, *question)
        self.check(False, CanBe(DATA), *question)
        self.check(False, CanBe(World([("a",)], [])), *question)
        self.check(True, CanBe(World([("a",), ("c",), ("b",)], [(0, "s", 1), (2, "r", 1)])), *question)
        self.check(False, CanBe(World([("a",), ("c",), ()], [(0, "s", 1), (2, "r", 1)])), *question)
        self.check(False, CanBe(World([("a",), ("c",), ("b",)], [(2, "r", 1)])), *question)
        self.check(False, CanBe(World([("a", "b"), ("c",), ("b",)], [(0, "s", 1), (2, "r", 1)])), *question)
        self.check(True, CanBe(World([*names, ("z",)], edges)), *question)

    def test_cannot_be(self):
        question = BOOK, DATA, 2, ("and", "a", ("some", "s", ("and", "a", "b")))
        for thing, told, right in [(2, ("and", "a", ("some", "r", "c")), True), (3, ("and", "a", "b"), True), (2, ("and", "a", "b"), False),
                                   (2, ("some", "s", ("and", "a", "b")), True), (0, ("and", "a", "b"), False), (4, ("and", "a", "b"), False), (-1, ("and", "a", "b"), False),
                                   (2, "none", False), (2, ("and", "none", "a"), False), (2, "a", False), (2, ("some", "r", "c"), False), (2, ("and", "a", somes(2, "c")), False)]:
            if 0 <= thing < 4:
                self.check(right, CannotBe(thing, told), *question)
            self.assertIs(CannotBe(thing, told).shows(*question), right)
        self.assertFalse(CannotBe(3, ("and", "a", "b")).shows(BOOK, DATA, 2, "a"))

    def test_new_each_time(self):
        self.assertEqual(suppose(BOOK, DATA, 1, "a"), suppose(BOOK, DATA, 1, "a"))
        self.assertNotEqual(CanBe(DATA), CanBe(World([()], [])))
        self.assertNotEqual(CannotBe(0, "a"), CannotBe(1, "a"))
        self.assertNotEqual(CannotBe(0, "a"), CannotBe(0, "b"))


class Refusals(unittest.TestCase):
    def test_in_order(self):
        for function in (suppose, CanBe(DATA).shows, CannotBe(0, "a").shows):
            for bad in BAD_BOOKS:
                with self.assertRaises(BadBook):
                    function(bad, None, None, None)
            for bad in BAD_WORLDS:
                with self.assertRaises(BadWorld):
                    function(BOOK, bad, None, None)
            for bad in [None, True, False, -1, 3, "0", (0,)]:
                with self.assertRaises(BadThing):
                    function(BOOK, DATA, bad, None)
            for bad in [*BAD_CONCEPTS, *WITH_NONE]:
                with self.assertRaises(BadConcept):
                    function([("within", "all", "none")], DATA, 0, bad)


if __name__ == "__main__":
    unittest.main()
