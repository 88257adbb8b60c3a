"""[22] Certain answers."""

import copy
import unittest

from conceptworlds.answering import Answers, Impossible, answer, is_possible
from conceptworlds.books import broken_rules
from conceptworlds.concepts import depth, parts
from conceptworlds.errors import BadBook, BadConcept, BadWorld
from conceptworlds.following import follows
from conceptworlds.worlds import World
from tests.support import OTHERS, Chance, chain, nested, rename, slow_things, somes, unravelled
from tests.test_plain import BAD_CONCEPTS, WITH_NONE
from tests.test_wordrules import BAD_WORLDS

RBB = [("within", ("some", "r", "b"), "b")]
DATA = World([(), (), ("b",)], [(0, "r", 1), (1, "r", 2)])


def keeps_data(world, data):
    """Whether the first things of a world are those of data, with their names and edges."""
    return (len(world) >= len(data) and set(data.edges()) <= set(world.edges())
            and all(set(row) <= set(more) for row, more in zip(data.names(), world.names())))


def least_depth(book, data, thing, concept, most=4):
    """The least depth at which a thing is seen to be in a concept, None for more than the most."""
    for level in range(most + 1):
        if follows(book, unravelled(data, thing, level), concept):
            return level
    return None


def is_right(found, book, data, concept):
    """Whether an Answers is as described, by the words of the document, for depths of at most four."""
    if broken_rules(book, found.world) or not keeps_data(found.world, data):
        return False
    held = sorted(slow_things(found.world, concept) & set(range(len(data))))
    if found.things != held or not len(held) == len(found.concepts) == len(found.depths):
        return False
    for thing, told, level in zip(held, found.concepts, found.depths):
        if "none" in parts(told) or thing not in slow_things(data, told) or not follows(book, told, concept):
            return False
        if level != depth(told) or level != least_depth(book, data, thing, concept):
            return False
    return True


class Answering(unittest.TestCase):
    def test_ordinary(self):
        found = answer(RBB, DATA, "b")
        self.assertEqual((found.things, found.concepts, found.depths), ([0, 1, 2], [somes(2, "b"), somes(1, "b"), "b"], [2, 1, 0]))
        self.assertTrue(is_right(found, RBB, DATA, "b"))
        self.assertEqual(answer([], DATA, "b").things, [2])
        self.assertEqual(answer(RBB, DATA, "all").concepts, ["all"] * 3)
        self.assertEqual(answer(RBB, DATA, "c").things, [])
        self.assertEqual(answer(RBB, DATA, somes(1, "b")).things, [0, 1])

    def test_things_that_are_not_in_the_data(self):
        book = [("within", "b", ("some", "r", "c")), ("within", "c", ("some", "s", "b"))]
        found = answer(book, DATA, ("some", "r", ("some", "s", ("some", "r", "c"))))
        self.assertEqual((found.things, found.concepts, found.depths), ([2], ["b"], [0]))
        self.assertGreater(len(found.world), 3)
        self.assertTrue(keeps_data(found.world, DATA))
        self.assertEqual(broken_rules(book, found.world), [])

    def test_names_that_the_book_does_not_know(self):
        data = World([("x", "z"), ("y",)], [(0, "q", 1), (1, "q", 1)])
        found = answer(RBB, data, ("and", "z", ("some", "q", "y")))
        self.assertEqual((found.things, found.depths), ([0], [1]))
        self.assertEqual(found.world.names()[:2], data.names())
        self.assertTrue(is_right(found, RBB, data, ("and", "z", ("some", "q", "y"))))
        self.assertEqual(answer([("within", "r", ("some", "r", "r"))], World([("r",), ()], [(1, "r", 0)]), somes(2, "r")).things, [0, 1])

    def test_role_rules(self):
        data = World([("a",), (), ("b",)], [(0, "r", 1), (1, "s", 2)])
        book = [("below", "r", "t"), ("below", "s", "t"), ("passes", "t"), ("itself", "q")]
        self.assertEqual(answer(book, data, ("some", "t", "b")).things, [0, 1])
        self.assertEqual(answer(book, data, ("some", "t", "b")).concepts, [("some", "r", ("some", "s", "b")), ("some", "s", "b")])
        self.assertEqual(answer(book, data, ("some", "q", ("some", "q", "a"))).depths, [0])

    def test_least_depths(self):
        data = World([(), ("b",), ("c",), ("a",)], [(0, "r", 1), (0, "s", 2), (2, "r", 3)])
        book = [("within", ("some", "s", ("some", "r", "a")), "d"), ("within", ("and", ("some", "r", "b"), ("some", "s", "all")), "d")]
        self.assertEqual(answer(book, data, "d").depths, [1])
        self.assertEqual(answer(book[:1], data, "d").depths, [2])
        loop = World([("a",)], [(0, "r", 0)])
        self.assertEqual(answer([], loop, somes(7)).depths, [7])
        self.assertEqual(answer([("within", "a", somes(1))], loop, somes(7)).depths, [0])
        ring = World([(), (), (), ("a",)], [(0, "r", 1), (1, "r", 2), (2, "r", 3), (3, "r", 0)])
        found = answer([("within", somes(1), "a")], ring, somes(1))
        self.assertEqual((found.things, found.depths), ([0, 1, 2, 3], [3, 2, 1, 4]))

    def test_none_in_the_concept(self):
        for concept in WITH_NONE:
            found = answer(RBB, DATA, concept)
            self.assertEqual((found.things, found.concepts, found.depths), ([], [], []))
            self.assertTrue(is_right(found, RBB, DATA, concept))

    def test_not_possible(self):
        book = [*RBB, ("within", ("and", "b", "c"), "none")]
        data = World([("c", "z"), (), ("b",)], [(0, "r", 1), (1, "r", 2), (2, "r", 2)])
        found = answer(book, data, "all")
        self.assertEqual(found.thing, 0)
        self.assertEqual(depth(found.concept), 2)
        self.assertTrue(found.shows(book, data, "all"))
        self.assertFalse(is_possible(book, data))
        for left in ([book[0]], [book[1]]):
            self.assertTrue(is_possible(left, data))
            self.assertIsInstance(answer(left, data, "all"), Answers)
        self.assertIsInstance(answer(book, data, "none"), Impossible)
        never = [("within", "all", "none")]
        self.assertEqual(answer(never, World([()], []), "a"), Impossible(0, "all"))
        self.assertFalse(is_possible(never, World([("a",)], [])))
        self.assertFalse(is_possible([("within", somes(1, "all"), "none"), ("itself", "r")], DATA))
        self.assertTrue(is_possible([("within", somes(3, "all"), "none")], DATA))
        self.assertFalse(is_possible([("within", somes(2, "all"), "none")], DATA))
        self.assertFalse(is_possible([("within", somes(1, "all", "s"), "none"), ("below", "r", "s")], DATA))

    def test_by_chance(self):
        found = {Answers: 0, Impossible: 0}
        for seed in range(300):
            chance = Chance(seed, names=("a", "b", "c"))
            book, data, concept = chance.book(6), chance.world(3, 0.25), chance.concept(2, seed % 5 == 0)
            book += [("within", chance.concept(1, False), "none")] if seed % 6 == 0 else []
            evidence = answer(book, data, concept)
            found[type(evidence)] += 1
            self.assertTrue(evidence.shows(book, data, concept))
            self.assertIs(is_possible(book, data), isinstance(evidence, Answers))
            if isinstance(evidence, Impossible):
                self.assertIn(evidence.thing, slow_things(data, evidence.concept))
                self.assertTrue(follows(book, evidence.concept, "none") and "none" not in parts(evidence.concept))
                continue
            self.assertTrue(is_right(evidence, book, data, concept))
            for thing in range(len(data)):
                if thing not in evidence.things:
                    self.assertIsNone(least_depth(book, data, thing, concept, 2))
            other = answer(rename(book, OTHERS), rename(data, OTHERS), rename(concept, OTHERS))
            self.assertEqual((other.things, other.depths), (evidence.things, evidence.depths))
        self.assertGreater(min(found.values()), 10)

    def test_large(self):
        data = World([()] * 89 + [("b",)], chain(90).edges())
        found = answer(RBB, data, "b")
        self.assertEqual(found.depths, list(range(89, -1, -1)))
        self.assertTrue(found.shows(RBB, data, "b"))
        self.assertEqual(len(answer(RBB, World([()] * 1999 + [("b",)], chain(2000).edges()), "b").things), 2000)
        both = [("within", ("and", somes(1, "b"), somes(1, "b", "s")), "b")]
        edges = sorted((x, role, x + 1) for x in range(60) for role in "rs")
        self.assertEqual(answer(both, World([()] * 60 + [("b",)], edges), "b").depths[0], 60)
        star = World([("a",)] * 300, [(0, "r", x) for x in range(300)])
        self.assertEqual(answer([], star, ("and", somes(1), somes(2))).things, [0])
        self.assertEqual(answer([], chain(3), nested(100)).things, [])


class Shows(unittest.TestCase):
    def setUp(self):
        self.book = [*RBB, ("within", "b", ("some", "s", "c"))]
        self.found = answer(self.book, DATA, "b")

    def check(self, right, **changes):
        other = copy.deepcopy(self.found)
        for name, value in changes.items():
            setattr(other, name, value)
        self.assertIs(other.shows(self.book, DATA, "b"), is_right(other, self.book, DATA, "b"))
        if right is not None:
            self.assertIs(other.shows(self.book, DATA, "b"), right)

    def test_things(self):
        self.check(True)
        for things in ([], [0, 1], [1, 2], [0, 1, 2, 2], [0, 1, 2, 3], [2, 1, 0], [0, 0, 1]):
            self.check(False, things=things)
        self.check(False, things=[0, 1], concepts=self.found.concepts[:2], depths=self.found.depths[:2])
        self.check(False, things=[], concepts=[], depths=[])
        self.check(False, concepts=self.found.concepts[:2])
        self.check(False, depths=self.found.depths[:2])
        self.check(False, depths=[*self.found.depths, 0])

    def test_concepts(self):
        for told, right in [(somes(2, ("and", "b", "all")), True), (("and", somes(2, "b"), somes(1, "all")), True), ("b", False), (somes(1, "b"), False),
                            (somes(3, "b"), False), (somes(2, "c"), False), (somes(2, "all"), False), (somes(2, "none"), False), ("none", False)]:
            self.check(right, concepts=[told, *self.found.concepts[1:]])

    def test_concepts_of_other_things(self):
        book, data = [("within", "a", "c"), ("within", "b", "c"), ("within", somes(1, "a"), "c")], World([("a",), ("b",)], [(0, "r", 0)])
        world = answer(book, data, "c").world
        for concepts, right in [(["a", "b"], True), (["c", "c"], False), (["b", "a"], False), (["a", "a"], False), (["b", "b"], False),
                                ([("and", "a", "a"), "b"], True), ([somes(1, "a"), "b"], False), (["a", ("and", "b", "all")], True)]:
            self.assertIs(Answers([0, 1], concepts, [0, 0], world).shows(book, data, "c"), right)
        self.assertFalse(Answers([0, 1], [somes(1, "a"), "b"], [1, 0], world).shows(book, data, "c"))

    def test_depths(self):
        for depths in ([3, 1, 0], [2, 1, 1], [0, 1, 2], [2, 1, -1], [2, 0, 0]):
            self.check(False, depths=depths)
        loop = World([("b",)], [(0, "r", 0)])
        self.assertTrue(Answers([0], ["b"], [0], loop).shows(RBB, loop, "b"))
        self.assertFalse(Answers([0], [somes(1, "b")], [1], loop).shows(RBB, loop, "b"))

    def test_worlds(self):
        names, edges = self.found.world.names(), self.found.world.edges()
        for at in range(len(names)):
            for name in names[at]:
                fewer = [tuple(one for one in row if one != name or at != place) for place, row in enumerate(names)]
                self.check(False if at < 3 else None, world=World(fewer, edges))
        for edge in edges:
            fewer = World(names, [one for one in edges if one != edge])
            self.check(False if edge in DATA.edges() else None, world=fewer)
        self.check(False, world=DATA)
        self.check(False, world=World([()], []))
        self.check(True, world=World([*names, ("b", "c", "d")], [*edges, (len(names), "r", len(names)), (len(names), "s", len(names))]))
        self.check(True, world=World([("b", "c", "d")] * 3, sorted((x, role, y) for x in range(3) for role in "rs" for y in range(3))))
        found = answer([], DATA, "b")
        self.assertFalse(Answers([2], ["b"], [0], World([("b",), (), ("b",)], DATA.edges())).shows([], DATA, "b"))
        self.assertTrue(Answers((2,), ("b",), (0,), DATA).shows([], DATA, "b"))
        self.assertEqual(Answers((2,), ("b",), (0,), found.world).things, [2])

    def test_impossible(self):
        book = [*RBB, ("within", ("and", "b", "c"), "none")]
        data = World([("c",), (), ("b",)], [(0, "r", 1), (1, "r", 2)])
        for thing, told, right in [(0, ("and", "c", somes(2, "b")), True), (0, ("and", "c", somes(2, "b"), somes(1, "all")), True), (1, somes(1, "b"), False),
                                   (0, ("and", "c", somes(1, "b")), False), (1, ("and", "c", somes(2, "b")), False), (3, "all", False),
                                   (-3, ("and", "c", somes(2, "b")), False), (0, "none", False), (0, ("some", "r", "none"), False), (0, "c", False)]:
            self.assertIs(Impossible(thing, told).shows(book, data, "a"), right)

    def test_altered_by_chance(self):
        for seed in range(100):
            chance = Chance(seed)
            self.book, data, concept = chance.book(5), chance.world(3, 0.25), chance.concept(1, False)
            found = answer(self.book, data, concept)
            if isinstance(found, Answers):
                names = [tuple(one for one in row if chance.random.random() < 0.9) for row in found.world.names()]
                edges = [edge for edge in found.world.edges() if chance.random.random() < 0.9]
                other = Answers(found.things, found.concepts, found.depths, World(names, edges))
                self.assertIs(other.shows(self.book, data, concept), is_right(other, self.book, data, concept))

    def test_new_each_time(self):
        before = copy.deepcopy(self.found)
        for one in (self.found.things, self.found.concepts, self.found.depths):
            one.append(7)
        self.assertEqual(answer(self.book, DATA, "b"), before)
        self.assertNotEqual(self.found, before)
        self.assertNotEqual(Impossible(0, "a"), Impossible(0, "b"))
        self.assertEqual(DATA, World([(), (), ("b",)], [(0, "r", 1), (1, "r", 2)]))


class Refusals(unittest.TestCase):
    def test_in_order(self):
        for function in (answer, Answers([], [], [], DATA).shows, Impossible(0, "a").shows):
            for bad in [None, 1, True, "a", {}, [None]]:
                with self.assertRaises(BadBook):
                    function(bad, None, None)
            for bad in BAD_WORLDS:
                with self.assertRaises(BadWorld):
                    function(RBB, bad, None)
            for bad in BAD_CONCEPTS:
                with self.assertRaises(BadConcept):
                    function([("within", "all", "none")], DATA, bad)
        for bad in [None, 1, True, "a", {}, [None]]:
            with self.assertRaises(BadBook):
                is_possible(bad, None)
        for bad in BAD_WORLDS:
            with self.assertRaises(BadWorld):
                is_possible(RBB, bad)


if __name__ == "__main__":
    unittest.main()
