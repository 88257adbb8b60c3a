"""[3] Worlds, things in concepts, and products."""

import unittest

from conceptworlds.errors import BadConcept, BadWorld
from conceptworlds.worlds import World, product
from tests.support import Chance, chain, ring, slow_things, somes

BAD_NAMES = [None, "a", 1, True, {}, {(): 1}, set(), [], (), [[]], [["a"]], ["a"], [("b", "a")], [("a", "a")], [("A",)],
             [("all",)], [("none",)], [("some",)], [(1,)], [(True,)], [None], [("a",), None], [("a", ("b",))], [{}],
             [("abcdefghijklm",)], [("",)]]
BAD_EDGES = [None, 1, "", {}, set(), [(0, "r")], [(0, "r", 1, 1)], [[0, "r", 1]], [(0, "r", 2)], [(-1, "r", 0)],
             [(0, "r", -1)], [(2, "r", 0)], [(False, "r", 1)], [(0, "r", True)], [(0, "R", 1)], [(0, "all", 1)],
             [(0, 1, 1)], [("0", "r", 1)], [(0, None, 1)], [(0, "r", 1), (0, "r", 0)], [(0, "r", 1), (0, "r", 1)],
             [(0, "s", 0), (0, "r", 1)], [(1, "r", 0), (0, "r", 0)], [None], ["abc"], [(0, ["r"], 1)], ["r"],
             ((0, "r", 1), (0, "r", 0))]


class Worlds(unittest.TestCase):
    def test_what_is_given(self):
        for make in (list, tuple):
            world = World(make([("a", "b"), ()]), make([(0, "r", 0), (0, "r", 1), (0, "s", 0), (1, "r", 0)]))
            self.assertEqual(world.size, 2)
            self.assertEqual(len(world), 2)
            self.assertEqual(world.names(), [("a", "b"), ()])
            self.assertEqual(world.edges(), [(0, "r", 0), (0, "r", 1), (0, "s", 0), (1, "r", 0)])
            self.assertEqual(list(world), [("a", "b"), ()])
            self.assertEqual(world.words(), (("a", "b"), ("r", "s")))

    def test_words_of_a_world_without(self):
        self.assertEqual(World([()], []).words(), ((), ()))
        self.assertEqual(World([("b",), ("a",)], []).words(), (("a", "b"), ()))
        self.assertEqual(World([("r",)], [(0, "r", 0)]).words(), (("r",), ("r",)))

    def test_edges_in(self):
        world = World([(), ()], [(0, "r", 1)])
        self.assertIs((0, "r", 1) in world, True)
        for edge in [(1, "r", 0), (0, "s", 1), (0, "r", 0), (0, "r", 2), (5, "r", 1), (False, "r", 1),
                     (0, "r", True), (0, "r"), [0, "r", 1], "r", None, ([], "r", 1)]:
            self.assertIs(edge in world, False)

    def test_equal(self):
        world = World([("a",), ()], [(0, "r", 1)])
        self.assertTrue(world == World((("a",), ()), ((0, "r", 1),)))
        self.assertFalse(world != World((("a",), ()), ((0, "r", 1),)))
        for other in [World([(), ()], [(0, "r", 1)]), World([("a",), ()], []), World([("a",), ()], [(0, "s", 1)]),
                      World([("a",), (), ()], [(0, "r", 1)])]:
            self.assertTrue(world != other)
            self.assertFalse(world == other)

    def test_copied_and_new(self):
        names, edges = [("a",), ()], [(0, "r", 1)]
        world = World(names, edges)
        names.append(("b",))
        edges.clear()
        world.names().clear()
        world.edges().append(1)
        self.assertEqual((world.names(), world.edges(), len(world)), ([("a",), ()], [(0, "r", 1)], 2))
        self.assertEqual(world.things_in("a"), [0])
        world.things_in("a").append(7)
        self.assertEqual(world.things_in("a"), [0])

    def test_refusals(self):
        for names in BAD_NAMES:
            for edges in ([], BAD_EDGES[0]):
                with self.assertRaises(BadWorld, msg=repr(names)):
                    World(names, edges)
        for edges in BAD_EDGES:
            with self.assertRaises(BadWorld, msg=repr(edges)):
                World([("a",), ()], edges)

    def test_refused_concepts(self):
        for concept in [None, 1, True, "", "A", ("and", "a"), ["some", "r", "a"], somes(101)]:
            with self.assertRaises(BadConcept):
                World([()], []).things_in(concept)

    def test_things_in(self):
        world = World([("a",), ("a", "b"), ("r",)], [(0, "r", 1), (1, "s", 1), (2, "r", 0)])
        for concept, things in [
                ("all", [0, 1, 2]), ("none", []), ("a", [0, 1]), ("c", []), ("r", [2]), (("and", "a", "b"), [1]),
                (("some", "r", "all"), [0, 2]), (("some", "r", "b"), [0]), (("some", "s", ("some", "s", "a")), [1]),
                (("some", "t", "all"), []), (("some", "r", "none"), []), (("some", "r", ("some", "r", "b")), [2])]:
            self.assertEqual(world.things_in(concept), things)

    def test_chains_and_rings(self):
        self.assertEqual(chain(101).things_in(somes(100, "all")), [0])
        self.assertEqual(chain(100).things_in(somes(100, "all")), [])
        self.assertEqual(ring(7).things_in(somes(100)), [-100 % 7])
        self.assertEqual(World([()], [(0, "r", 0)]).things_in(somes(100, "all")), [0])

    def test_things_by_chance(self):
        for seed in range(100):
            chance = Chance(seed)
            world = chance.world()
            for _ in range(10):
                concept = chance.concept(4)
                self.assertEqual(world.things_in(concept), sorted(slow_things(world, concept)))


class Products(unittest.TestCase):
    def test_numbers(self):
        first = World([("a", "b"), ("a",)], [(0, "r", 1), (1, "s", 1)])
        second = World([("b",), ("a",), ()], [(0, "r", 2), (1, "t", 0), (2, "r", 2)])
        found = product(first, second)
        self.assertEqual(found.names(), [("b",), ("a",), (), (), ("a",), ()])
        self.assertEqual(found.edges(), [(0, "r", 5), (2, "r", 5)])

    def test_both(self):
        for seed in range(60):
            chance = Chance(seed)
            first, second = chance.world(), chance.world()
            found, many = product(first, second), len(second)
            self.assertEqual(len(found), len(first) * many)
            for _ in range(10):
                concept = chance.concept(3)
                things = [x * many + y for x in first.things_in(concept) for y in second.things_in(concept)]
                self.assertEqual(found.things_in(concept), things)
            edges = [(x * many + y, role, z * many + w) for x, role, z in first.edges() for y, by, w in second.edges()
                     if by == role]
            self.assertEqual(found.edges(), sorted(edges))

    def test_refusals(self):
        world = World([()], [])
        for thing in [None, 1, True, [()], ([()], []), "a"]:
            for pair in [(thing, world), (world, thing), (thing, thing)]:
                with self.assertRaises(BadWorld):
                    product(*pair)


if __name__ == "__main__":
    unittest.main()
