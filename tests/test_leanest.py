"""[6] The leanest world."""

import unittest

from conceptworlds.books import broken_rules, closed
from conceptworlds.errors import BadWorld
from conceptworlds.leanest import classes, leanest
from conceptworlds.worlds import World
from tests.support import Chance, chain, ring, slow_levels


class Leanest(unittest.TestCase):
    def test_by_chance(self):
        for seed in range(120):
            chance = Chance(seed)
            world = chance.world(5)
            levels = slow_levels(world, world, world.words())
            found, lean = classes(world), leanest(world)
            place = {thing: at for at, group in enumerate(found) for thing in group}
            self.assertEqual(sorted(place), list(range(len(world))))
            self.assertEqual([group[0] for group in found], sorted(group[0] for group in found))
            for (x, y), level in levels.items():
                self.assertEqual(place[x] == place[y], level is None and levels[y, x] is None)
            self.assertTrue(all(group == sorted(group) for group in found))
            self.assertEqual(lean.names(), [world.names()[group[0]] for group in found])
            edges = {(place[x], role, at) for x, role, z in world.edges() for at, group in enumerate(found)
                     if levels[group[0], z] is None}
            self.assertEqual(lean.edges(), sorted(edges))
            for _ in range(10):
                concept = chance.concept(3)
                self.assertEqual(sorted({place[x] for x in world.things_in(concept)}), lean.things_in(concept))

    def test_books_are_kept(self):
        kept = 0
        for seed in range(300):
            chance = Chance(seed)
            book = chance.book(3)
            world = closed(book, chance.world(4))
            if not broken_rules(book, world):
                kept += 1
                self.assertEqual(broken_rules(book, leanest(world)), [])
        self.assertGreater(kept, 50)

    def test_edges(self):
        one = World([()], [])
        self.assertEqual((classes(one), leanest(one)), ([[0]], one))
        loop = World([("a",)], [(0, "r", 0)])
        self.assertEqual(leanest(loop), loop)
        same = World([()] * 5, sorted((x, "r", (x + 1) % 5) for x in range(5)))
        self.assertEqual((classes(same), leanest(same)), ([[0, 1, 2, 3, 4]], World([()], [(0, "r", 0)])))
        self.assertEqual(classes(ring(6)), [[thing] for thing in range(6)])

    def test_chain(self):
        found = leanest(chain(30))
        self.assertEqual(classes(chain(30)), [[thing] for thing in range(30)])
        # a thing further down takes in nothing that is further up, so it is an end for all that it takes in
        edges = [(x, "r", y) for x in range(30) for y in range(x + 1, 30)]
        self.assertEqual(found.edges(), edges)
        self.assertEqual(len(classes(chain(300))), 300)

    def test_alike_without_the_same_edges(self):
        # 1 is below 2, so the edge to it says nothing more: 0 and 3 are alike
        world = World([(), (), ("a",), ()], [(0, "r", 1), (0, "r", 2), (3, "r", 2)])
        self.assertEqual(classes(world), [[0, 3], [1], [2]])
        self.assertEqual(leanest(world).edges(), [(0, "r", 1), (0, "r", 2)])

    def test_new_lists(self):
        world = World([(), ()], [])
        found = classes(world)
        found[0].append(7)
        found.append([])
        self.assertEqual(classes(world), [[0, 1]])

    def test_refusals(self):
        for thing in [None, 1, True, [()], ([()], []), "a", World]:
            for function in (classes, leanest):
                with self.assertRaises(BadWorld):
                    function(thing)


if __name__ == "__main__":
    unittest.main()
