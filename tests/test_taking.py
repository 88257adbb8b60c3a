"""[5] Taken in, or apart."""

import unittest

from conceptworlds.concepts import depth, is_concept, words_in
from conceptworlds.errors import BadThing, BadWords, BadWorld
from conceptworlds.taking import Apart, TakenIn, compare
from conceptworlds.worlds import World
from tests.support import Chance, chain, ring, slow_levels, slow_things

BAD_WORDS = [None, 1, True, (), ("a", "r"), [(), ()], ([], ()), ((), []), ((), (), ()), (("b", "a"), ()),
             (("a", "a"), ()), ((), ("s", "r")), (("A",), ()), ((), ("all",)), ((1,), ()), ((), (True,)), ("a", ()),
             (("abcdefghijklm",), ()), {}, ((("a",),), ())]


class Comparing(unittest.TestCase):
    def test_by_chance(self):
        for seed in range(80):
            chance = Chance(seed)
            world, other = chance.world(5), chance.world(5)
            words = chance.some_of(("a", "b", "c")), chance.some_of(("r", "s", "t"))
            levels = slow_levels(world, other, words)
            for (x, y), level in levels.items():
                found = compare(world, x, other, y, words)
                self.assertTrue(found.shows(world, x, other, y, words))
                if level is None:
                    self.assertIsInstance(found, TakenIn)
                    self.check_pairs(found.pairs, world, (x, y), other, words)
                    continue
                self.assertIsInstance(found, Apart)
                self.assertEqual(depth(found.concept), level)
                self.assertNotIn("none", found.concept)
                names, roles = words_in(found.concept)
                self.assertTrue(set(names) <= set(words[0]) and set(roles) <= set(words[1]))
                self.assertIn(x, slow_things(world, found.concept))
                self.assertNotIn(y, slow_things(other, found.concept))

    def check_pairs(self, pairs, world, start, other, words):
        self.assertEqual(pairs, sorted(set(pairs)))
        self.assertIn(start, pairs)
        for x, y in pairs:
            self.assertTrue(set(world.names()[x]) & set(words[0]) <= set(other.names()[y]))
            for thing, role, end in world.edges():
                if thing == x and role in words[1]:
                    ends = [z for one, by, z in other.edges() if one == y and by == role]
                    self.assertTrue(any((end, z) in pairs for z in ends))

    def test_words_without(self):
        world = World([("a",), ()], [(0, "r", 1)])
        self.assertIsInstance(compare(world, 0, world, 1, ((), ())), TakenIn)
        self.assertEqual(compare(world, 0, world, 1, (("a",), ())), Apart("a"))
        self.assertEqual(compare(world, 0, world, 1, ((), ("r",))), Apart(("some", "r", "all")))
        self.assertEqual(compare(world, 0, world, 1, (("b",), ("s",))), TakenIn([(0, 1)]))

    def test_name_that_is_a_role(self):
        world = World([("r",), ()], [(1, "r", 0)])
        self.assertEqual(compare(world, 0, world, 1, (("r",), ())), Apart("r"))
        self.assertEqual(compare(world, 1, world, 0, (("r",), ("r",))).concept[:2], ("some", "r"))

    def test_itself(self):
        for world in (chain(30), ring(30), World([()], [(0, "r", 0)])):
            for thing in range(len(world)):
                self.assertIsInstance(compare(world, thing, world, thing, (("a",), ("r",))), TakenIn)

    def test_loops_and_chains(self):
        loop = World([()], [(0, "r", 0)])
        words = (), ("r",)
        found = compare(loop, 0, chain(60), 0, words)
        self.assertEqual(depth(found.concept), 60)
        self.assertTrue(found.shows(loop, 0, chain(60), 0, words))
        found = compare(chain(60), 0, loop, 0, words)
        self.assertEqual(found, TakenIn([(thing, 0) for thing in range(60)]))
        self.assertIsInstance(compare(chain(400), 0, chain(500), 0, words), TakenIn)
        self.assertIsInstance(compare(chain(500), 0, chain(400), 0, words), Apart)

    def test_least_depth(self):
        # Apart by the name a at depth 2 along s, and at depth 1 along r
        world = World([(), (), ("a",), ("b",)], [(0, "r", 1), (0, "s", 3), (1, "r", 2)])
        other = World([(), (), (), ()], [(0, "r", 1), (0, "s", 3), (1, "r", 2)])
        words = ("a", "b"), ("r", "s")
        self.assertEqual(compare(world, 0, other, 0, words), Apart(("some", "s", "b")))
        self.assertFalse(Apart(("some", "r", ("some", "r", "a"))).shows(world, 0, other, 0, words))

    def test_rings(self):
        words = ("a",), ("r",)
        found = compare(ring(6), 0, ring(3), 0, words)
        self.assertIsInstance(found, TakenIn)
        found = compare(ring(3), 0, ring(6), 0, words)
        self.assertEqual(depth(found.concept), 3)
        self.assertTrue(is_concept(found.concept))

    def test_many_ends(self):
        # each end of the other world lacks another name, so all of them must be refuted in one concept
        names = ("a", "b", "c", "d")
        world = World([(), names], [(0, "r", 1)])
        others = [tuple(name for name in names if name != left) for left in names]
        other = World([(), *others], [(0, "r", end) for end in range(1, 5)])
        found = compare(world, 0, other, 0, (names, ("r",)))
        self.assertEqual(found.concept[2][0], "and")
        self.assertEqual(sorted(found.concept[2][1:]), list(names))
        plain = World([(), (), (), ()], [(0, "r", end) for end in range(1, 4)])
        self.assertEqual(compare(world, 0, plain, 0, (("a", "b"), ("r",))).concept, ("some", "r", "a"))


class Shows(unittest.TestCase):
    def setUp(self):
        self.world = World([("a",), ("b",)], [(0, "r", 1)])
        self.other = World([("a", "b"), ("b",), ()], [(0, "r", 0), (0, "r", 1), (0, "r", 2), (0, "s", 2)])
        self.place = self.world, 0, self.other, 0, (("a", "b"), ("r",))

    def test_taken_in(self):
        for pairs in [[(0, 0), (1, 0)], [(0, 0), (1, 1)], [(0, 0), (1, 0), (1, 1)], ((0, 0), (1, 1))]:
            self.assertIs(TakenIn(pairs).shows(*self.place), True)
        for pairs in [[], [(0, 0)], [(1, 1)], [(1, 1), (0, 0)], [(0, 0), (0, 0), (1, 1)], [(0, 0), (1, 2)],
                      [(0, 0), (1, 1), (1, 2)], [(0, 0), (1, 1), (1, 3)], [(0, 0), (1, 1), (2, 1)], [(0, -1), (0, 0), (1, 1)],
                      [(-1, 0), (0, 0), (1, 1)], [(0, 0), (0, 1), (1, 1)], [(False, 0), (1, 1)]]:
            self.assertIs(TakenIn(pairs).shows(*self.place), False, pairs)
        loop = World([(), ()], [(0, "r", 0)])
        for pairs, told in [([(0, 0), (1, 1)], False), ([(0, 0), (1, 0)], True), ([(0, 0)], False)]:
            self.assertIs(TakenIn(pairs).shows(World([(), ()], [(0, "r", 1)]), 0, loop, 0, ((), ("r",))), told)
        self.assertIs(TakenIn([(0, 0), (1, 1)]).shows(self.world, 1, self.other, 1, self.place[4]), True)
        self.assertIs(TakenIn([(0, 0), (1, 1)]).shows(self.world, 0, self.other, 1, self.place[4]), False)

    def test_attributes_are_the_current_ones(self):
        found = TakenIn([(0, 0)])
        found.pairs.append((1, 1))
        self.assertTrue(found.shows(*self.place))
        found.pairs = [(0, 0)]
        self.assertFalse(found.shows(*self.place))

    def test_apart(self):
        place = self.other, 0, self.world, 0, (("a", "b"), ("r", "s"))
        for concept in ["b", ("and", "a", "b"), ("and", "all", "b", "b")]:
            self.assertIs(Apart(concept).shows(*place), True)
        for concept in ["a", "c", "none", "all", ("and", "a", "a"), ("some", "s", "all"), ("some", "r", "a"),
                        ("and", "b", ("some", "r", "all")), ("and", "b", "none"), ("and", "b", "c")]:
            self.assertIs(Apart(concept).shows(*place), False, concept)
        self.assertIs(Apart("b").shows(self.other, 0, self.world, 0, (("a",), ("s",))), False)
        one, two = World([("a", "b")], [(0, "r", 0)]), World([()], [(0, "s", 0)])
        for words, concepts in [((("a",), ()), ["a"]), ((("a", "b", "c"), ("r",)), ["a", "b", ("and", "b", "a")]),
                                ((("c",), ("r",)), [("some", "r", "all")]), (((), ("r", "s")), [("some", "r", "all")])]:
            for concept in ["a", "b", "c", ("and", "b", "a"), ("some", "r", "all"), ("some", "r", "a"), ("some", "s", "all"),
                            ("some", "r", ("some", "r", "all"))]:
                self.assertIs(Apart(concept).shows(one, 0, two, 0, words), concept in concepts)
        self.assertIs(Apart(("some", "s", "all")).shows(self.other, 0, self.world, 0, (("a",), ("s",))), True)
        self.assertIs(Apart(("some", "r", "a")).shows(self.other, 0, self.world, 0, (("a",), ("r",))), True)
        self.assertIs(Apart("b").shows(self.other, 0, self.world, 1, place[4]), False)
        self.assertIs(Apart("b").shows(self.world, 0, self.other, 0, place[4]), False)

    def test_equality(self):
        self.assertTrue(TakenIn([(0, 0)]) == TakenIn(((0, 0),)))
        self.assertTrue(TakenIn([(0, 0)]) != TakenIn([(0, 1)]))
        self.assertFalse(TakenIn([(0, 0)]) != TakenIn([(0, 0)]))
        self.assertTrue(Apart("a") == Apart("a"))
        self.assertTrue(Apart("a") != Apart("b"))
        self.assertFalse(Apart([]) == TakenIn([]))
        self.assertTrue(Apart([]) != TakenIn([]))

    def test_copied(self):
        pairs = [(0, 0)]
        found = TakenIn(pairs)
        pairs.append((1, 1))
        self.assertEqual(found.pairs, [(0, 0)])
        self.assertIsInstance(TakenIn(()).pairs, list)


class Refusals(unittest.TestCase):
    def refused(self, error, *place):
        for function in (compare, TakenIn([]).shows, Apart("all").shows):
            with self.assertRaises(error, msg=repr(place)):
                function(*place)

    def test_each_and_in_order(self):
        world, words = World([(), ()], []), ((), ())
        for bad in [None, 1, [()], "a", True, ((), ())]:
            self.refused(BadWorld, bad, 0, world, 0, words)
            self.refused(BadWorld, world, 0, bad, 0, words)
            self.refused(BadWorld, world, 9, bad, 9, None)
            self.refused(BadWorld, bad, None, world, None, None)
        for bad in [None, -1, 2, True, False, "0", (0,), [0]]:
            self.refused(BadThing, world, bad, world, 0, words)
            self.refused(BadThing, world, 0, world, bad, words)
            self.refused(BadThing, world, 0, world, bad, None)
            self.refused(BadThing, world, bad, world, 0, 5)
        for bad in BAD_WORDS:
            self.refused(BadWords, world, 0, world, 0, bad)


if __name__ == "__main__":
    unittest.main()
