"""[15] The plain order: trees, Mapped and Unmapped."""

import unittest

from conceptworlds.concepts import is_concept, size
from conceptworlds.errors import BadConcept
from conceptworlds.following import follows
from conceptworlds.plain import Mapped, Unmapped, judge_plain, plainly_within, tree
from conceptworlds.worlds import World
from tests.support import OTHERS, Chance, nested, rename, slow_things, somes

BAD_CONCEPTS = [None, 1, True, "A", "some", "", b"a", ["and", "a", "b"], ("and", "a"), ("some", "r"), ("or", "a", "b"),
                ("some", "all", "a"), ("and", "a", ("and", "b")), nested(101), somes(101), (), {}, "abcdefghijklm"]
WITH_NONE = ["none", ("some", "r", "none"), ("and", "a", ("some", "r", ("and", "b", ("some", "s", "none"))))]


def is_map(nodes, concept, other):
    """Whether nodes are a map from the tree of the second concept to that of the first one."""
    first, second = tree(concept), tree(other)
    if len(nodes) != len(second) or nodes[0] != 0:
        return False
    for at, (parent, role, names) in enumerate(second):
        image = nodes[at]
        if type(image) is not int or not 0 <= image < len(first) or not set(names) <= set(first[image][2]):
            return False
        if at and first[image][:2] != (nodes[parent], role):
            return False
    return True


class Trees(unittest.TestCase):
    def test_order_of_the_text(self):
        concept = ("and", ("some", "s", ("and", "b", ("some", "r", "a"))), "c", ("and", "a", ("some", "r", "all"), "c"))
        self.assertEqual(tree(concept), [(None, None, ("a", "c")), (0, "s", ("b",)), (1, "r", ("a",)), (0, "r", ())])
        self.assertEqual(tree("all"), [(None, None, ())])
        self.assertEqual(tree("all"), tree(("and", "all", ("and", "all", "all"))))
        self.assertEqual(tree(("and", "b", "a", "b")), [(None, None, ("a", "b"))])
        self.assertEqual(tree(("and", ("some", "r", "a"), ("some", "r", "a"))),
                         [(None, None, ()), (0, "r", ("a",)), (0, "r", ("a",))])
        self.assertEqual(tree(("and", "r", ("some", "r", "r"))), [(None, None, ("r",)), (0, "r", ("r",))])

    def test_deep(self):
        self.assertEqual(len(tree(somes(100))), 101)
        self.assertEqual(tree(nested(100)), [(None, None, ("a", "b"))])
        self.assertEqual(tree(somes(100))[-1], (99, "r", ("a",)))

    def test_numbers(self):
        for seed in range(100):
            concept = Chance(seed).concept(5, False)
            nodes = tree(concept)
            self.assertEqual(nodes[0][:2], (None, None))
            for at, (parent, role, names) in enumerate(nodes[1:], 1):
                self.assertLess(parent, at)
                self.assertIn(role, ("r", "s"))
                self.assertEqual(names, tuple(sorted(set(names))))
                chain = [at - 1]
                while chain[-1]:
                    chain.append(nodes[chain[-1]][0])
                self.assertIn(parent, chain)

    def test_refusals(self):
        for bad in [*BAD_CONCEPTS, *WITH_NONE]:
            with self.assertRaises(BadConcept):
                tree(bad)


class Judging(unittest.TestCase):
    def test_by_chance(self):
        found = {Mapped: 0, Unmapped: 0}
        for seed in range(400):
            chance = Chance(seed)
            concept, other = chance.concept(3, seed % 5 == 0), chance.concept(2, seed % 7 == 0)
            evidence = judge_plain(concept, other)
            found[type(evidence)] += 1
            self.assertIs(plainly_within(concept, other), isinstance(evidence, Mapped))
            self.assertIs(plainly_within(concept, other), follows([], concept, other))
            self.assertTrue(evidence.shows(concept, other))
            if isinstance(evidence, Unmapped):
                self.assertIn(evidence.thing, slow_things(evidence.world, concept) - slow_things(evidence.world, other))
            elif evidence.nodes:
                self.assertTrue(is_map(evidence.nodes, concept, other))
            self.assertIs(plainly_within(rename(concept, OTHERS), rename(other, OTHERS)), isinstance(evidence, Mapped))
        self.assertGreater(min(found.values()), 50)

    def test_none(self):
        for concept in WITH_NONE:
            for other in [*WITH_NONE, "all", "a", somes(3)]:
                self.assertEqual(judge_plain(concept, other), Mapped([]))
                self.assertTrue(plainly_within(concept, other))
            for other in ["all", "a", somes(3)]:
                self.assertIsInstance(judge_plain(other, concept), Unmapped)

    def test_the_and_of_somes_is_more_than_the_some_of_ands(self):
        apart = ("and", ("some", "r", "a"), ("some", "r", "b"))
        self.assertTrue(plainly_within(("some", "r", ("and", "a", "b")), apart))
        self.assertFalse(plainly_within(apart, ("some", "r", ("and", "a", "b"))))
        self.assertEqual(judge_plain(("some", "r", ("and", "a", "b")), apart).nodes, [0, 1, 1])

    def test_large(self):
        wide = ("and", *[("some", "r", ("and", "a", somes(at % 40))) for at in range(300)])
        self.assertTrue(plainly_within(wide, wide))
        self.assertFalse(plainly_within(wide, somes(41)))
        self.assertTrue(plainly_within(somes(100), somes(100, "all")))

    def test_refusals(self):
        for function in (judge_plain, plainly_within, Mapped([0]).shows, Unmapped(World([()], []), 0).shows):
            for bad in BAD_CONCEPTS:
                for pair in [(bad, "a"), ("a", bad), (bad, bad)]:
                    with self.assertRaises(BadConcept):
                        function(*pair)


class Shows(unittest.TestCase):
    def test_other_maps(self):
        concept = ("and", ("some", "r", "a"), ("some", "r", ("and", "a", "b")), ("some", "s", "a"))
        other = ("and", ("some", "r", "a"), ("some", "r", "all"))
        for first in range(-1, 5):
            for second in range(-1, 5):
                right = first in (1, 2) and second in (1, 2)
                self.assertIs(Mapped([0, first, second]).shows(concept, other), right)
        for nodes in [[], [0], [0, 1], [0, 1, 1, 1], [1, 1, 1], [-4, 1, 1], [0, -3, 1], [0, 1, 10 ** 30]]:
            self.assertFalse(Mapped(nodes).shows(concept, other))
        self.assertTrue(Mapped((0, 1, 2)).shows(concept, other))
        self.assertEqual(Mapped((0, 1, 2)).nodes, [0, 1, 2])

    def test_none(self):
        self.assertTrue(Mapped([]).shows("none", "none"))
        self.assertTrue(Mapped([]).shows(("some", "r", "none"), "a"))
        for nodes in ([0], [1], [0, 0]):
            self.assertFalse(Mapped(nodes).shows("none", "a"))
            self.assertFalse(Mapped(nodes).shows("a", "none"))
        self.assertFalse(Mapped([]).shows("a", "none"))
        self.assertFalse(Mapped([]).shows("a", "all"))
        self.assertTrue(Mapped([0]).shows("a", "all"))

    def test_worlds(self):
        world = World([("a",), ("a", "b"), ()], [(0, "r", 1), (2, "r", 0)])
        concept, other = ("some", "r", "a"), ("some", "r", "b")
        self.assertEqual([Unmapped(world, x).shows(concept, other) for x in range(-1, 5)], [x == 2 for x in range(-1, 5)])
        self.assertFalse(Unmapped(world, -1).shows(concept, other))
        self.assertFalse(Unmapped(world, 10 ** 30).shows(concept, other))
        self.assertTrue(Unmapped(world, 2).shows("all", "none"))
        self.assertNotEqual(Unmapped(world, 0), Unmapped(World([()], []), 0))
        self.assertNotEqual(Unmapped(world, 0), Unmapped(world, 1))
        self.assertEqual(Unmapped(world, 1), Unmapped(World(world.names(), world.edges()), 1))

    def test_altered_maps_by_chance(self):
        for seed in range(150):
            chance = Chance(seed)
            concept, other = chance.concept(3, False), chance.concept(2, False)
            evidence = judge_plain(concept, other)
            if isinstance(evidence, Mapped):
                for at in range(len(evidence.nodes)):
                    for image in range(-1, len(tree(concept)) + 1):
                        nodes = [*evidence.nodes[:at], image, *evidence.nodes[at + 1:]]
                        self.assertIs(Mapped(nodes).shows(concept, other), is_map(nodes, concept, other))
                self.assertFalse(Mapped(evidence.nodes[:-1]).shows(concept, other))
                self.assertFalse(Mapped([*evidence.nodes, 0]).shows(concept, other))

    def test_changed_later(self):
        evidence = judge_plain("a", "a")
        evidence.nodes.append(0)
        self.assertFalse(evidence.shows("a", "a"))
        self.assertEqual(judge_plain("a", "a").nodes, [0])
        self.assertTrue(is_concept("a") and size("a") == 1)


if __name__ == "__main__":
    unittest.main()
