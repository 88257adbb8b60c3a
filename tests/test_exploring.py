"""[33] Exploring."""

import unittest

from conceptworlds.errors import BadWords
from conceptworlds.exploring import explore
from conceptworlds.following import follows
from conceptworlds.leanest import classes
from conceptworlds.worlds import World
from tests.support import OTHERS, Chance, chain, rename, rename_told, ring, slow_things, small_concepts
from tests.test_saying import is_in
from tests.test_taking import BAD_WORDS


def told_part(world, words):
    """A world with only its told names and its edges by told roles."""
    return World([tuple(name for name in row if name in words[0]) for row in world.names()],
                 [edge for edge in world.edges() if edge[1] in words[1]])


def whole(world, thing, words):
    return world, thing


def behind(world, thing, words):
    """The part of a world behind a thing along told roles, the thing last, with other names and edges besides."""
    reached = [thing]
    for one in reached:
        reached += [z for x, role, z in world.edges() if x == one and role in words[1] and z not in reached]
    order = reached[::-1]
    edges = sorted((order.index(x), role, order.index(z)) for x, role, z in told_part(world, words).edges() if x in order and z in order)
    rows = [tuple(sorted({*told_part(world, words).names()[x], "strange"} - ({"strange"} & set(words[0])))) for x in order]
    return World(rows, edges), len(order) - 1


def doubled(world, thing, words):
    """A world twice, and the thing in the second one."""
    many = len(world)
    edges = world.edges() + [(x + many, role, z + many) for x, role, z in world.edges()]
    return World(world.names() * 2, edges), thing + many


def unfolded(world, thing, words):
    """A world whose things are pairs of a thing and of a number, so that edges lead on to the next number, in a ring."""
    many = len(world)
    edges = sorted((x + at * many, role, z + (at + 1) % 3 * many) for x, role, z in world.edges() for at in range(3))
    return World(world.names() * 3, edges), thing


class Expert:
    def __init__(self, world, words, shape=whole, last=False):
        self.world, self.words, self.shape, self.last = world, words, shape, last
        self.refuted = 0

    def __call__(self, concept, other):
        assert is_in(concept, self.words) and is_in(other, self.words)
        found = sorted(slow_things(self.world, concept) - slow_things(self.world, other))
        if not found:
            return None
        self.refuted += 1
        return self.shape(self.world, found[-1 if self.last else 0], self.words)


class Exploring(unittest.TestCase):
    def check(self, world, words, shape=whole, last=False):
        expert = Expert(world, words, shape, last)
        rules = explore(words, expert)
        self.assertIsInstance(rules, list)
        self.assertLessEqual(expert.refuted, len(classes(told_part(world, words))))
        for at, rule in enumerate(rules):
            self.assertEqual((rule[0], len(rule)), ("within", 3))
            self.assertTrue(is_in(rule[1], words) and is_in(rule[2], words))
            self.assertTrue(slow_things(world, rule[1]) <= slow_things(world, rule[2]))
            self.assertFalse(follows(rules[:at] + rules[at + 1:], rule[1], rule[2]))
        small = [*small_concepts(words, 2), "none"]
        chance = Chance(len(rules))
        for one, other in [chance.random.choices(small, k=2) for _ in range(60)]:
            self.assertIs(follows(rules, one, other), slow_things(world, one) <= slow_things(world, other))
        return rules

    def test_without_words(self):
        world = World([("a",), ()], [(0, "r", 1)])
        self.assertEqual(explore(((), ()), Expert(world, ((), ()))), [])
        self.assertEqual(self.check(World([("a",)], []), (("a",), ())), [("within", "all", "a")])
        self.assertEqual(self.check(world, (("a",), ())), [])
        self.check(world, ((), ("r",)))
        self.check(world, (("b",), ("s",)))
        self.check(World([()], []), (("a",), ("r",)))

    def test_ordinary(self):
        world = World([("bird", "wren"), ("bird",), ("worm",)], [(0, "eats", 2), (1, "eats", 2)])
        rules = self.check(world, (("bird", "worm", "wren"), ("eats",)))
        self.assertTrue(follows(rules, "wren", "bird"))
        self.assertTrue(follows(rules, "bird", ("some", "eats", "worm")))
        self.assertTrue(follows(rules, ("some", "eats", ("some", "eats", "all")), "none"))
        self.assertFalse(follows(rules, "bird", "wren"))

    def test_rings_and_chains(self):
        for shape in (whole, behind, doubled, unfolded):
            self.check(ring(3), (("a",), ("r",)), shape)
            self.check(chain(6), ((), ("r",)), shape)
            self.check(World([("a",)], [(0, "r", 0)]), (("a",), ("r",)), shape)
            self.check(World([("r",), ()], [(0, "r", 1), (1, "s", 1)]), (("r", "s"), ("r", "s")), shape)

    def test_role_rules_are_not_among_the_rules(self):
        world = World([("a",), ("b",), ("a", "b")], [(x, role, x) for x in range(3) for role in "rs"])
        rules = self.check(world, (("a", "b"), ("r", "s")))
        self.assertTrue(follows(rules, ("and", "a", "b"), ("some", "r", ("some", "s", ("and", "a", "b")))))

    def test_by_chance(self):
        for seed in range(120):
            chance = Chance(seed, names=("a", "b", "c"))
            world, words = chance.world(5, 0.25), (chance.some_of(("a", "b", "c")), chance.some_of(("r", "s")))
            shape = (whole, behind, doubled, unfolded)[seed % 4]
            rules = self.check(world, words, shape, seed % 8 < 4)
            other = explore(rename_told(words, OTHERS), Expert(rename(world, OTHERS), rename_told(words, OTHERS), shape))
            for rule in rename(rules, OTHERS):
                self.assertTrue(follows(other, rule[1], rule[2]))

    def test_one_thing_at_a_time(self):
        refuted = 0
        for seed in range(40):
            chance = Chance(seed)
            world, words = chance.world(4, 0.2), (("a", "b"), ("r",))
            expert = Expert(world, words, behind, True)
            explore(words, expert)
            refuted = max(refuted, expert.refuted)
            self.check(world, words, behind, True)
        self.assertGreater(refuted, 2)

    def test_nothing_is_kept(self):
        world, words = World([("a",), ("b",)], [(0, "r", 1)]), (("a", "b"), ("r",))
        expert = Expert(world, words)
        rules = explore(words, expert)
        rules.append("spoilt")
        self.assertEqual(explore(words, expert), rules[:-1])
        self.assertEqual(world, World([("a",), ("b",)], [(0, "r", 1)]))

    def test_errors_are_passed_on(self):
        class Stop(Exception):
            pass

        asked = []

        def stop(concept, other):
            asked.append((concept, other))
            if len(asked) == 2:
                raise Stop("enough")
            return World([()], []), 0

        with self.assertRaises(Stop):
            explore((("a",), ()), stop)
        with self.assertRaises(KeyError):
            explore((("a",), ()), lambda concept, other: {}[concept])

    def test_refusals(self):
        for bad in BAD_WORDS:
            with self.assertRaises(BadWords):
                explore(bad, None)


if __name__ == "__main__":
    unittest.main()
