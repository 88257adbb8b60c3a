"""[27] The rules of a world, and extents."""

import unittest

from conceptworlds.books import broken_rules
from conceptworlds.concepts import is_concept, size, words_in
from conceptworlds.errors import BadWords, BadWorld
from conceptworlds.following import follows
from conceptworlds.wordrules import WorldRules, extents, rules_of
from conceptworlds.worlds import World
from tests.support import Chance, chain, ring, slow_things, small_concepts, somes
from tests.test_taking import BAD_WORDS

BAD_WORLDS = [None, 1, True, [()], ([()], []), "a"]


class Extents(unittest.TestCase):
    def check(self, world, words):
        found = extents(world, words)
        self.assertEqual([things for things, _ in found], sorted({things for things, _ in found}))
        sizes = {things: size(concept) for things, concept in found}
        for things, concept in found:
            self.assertTrue(is_concept(concept))
            self.assertEqual(tuple(sorted(slow_things(world, concept))), things)
            names, roles = words_in(concept)
            self.assertTrue(set(names) <= set(words[0]) and set(roles) <= set(words[1]))
            self.assertNotIn("none", concept)
        least = {}
        for concept in small_concepts(words, 3):
            things = tuple(world.things_in(concept))
            least[things] = min(size(concept), least.get(things, 9))
        for things, count in least.items():
            self.assertEqual(sizes[things], count)
        self.assertTrue(all(count > 3 or things in least for things, count in sizes.items()))
        return found

    def test_without(self):
        world = World([("a",), ("a", "b")], [(0, "r", 1)])
        self.assertEqual(extents(world, ((), ())), [((0, 1), "all")])
        self.assertEqual(extents(world, (("a", "b"), ())), [((0, 1), "all"), ((1,), "b")])
        self.assertEqual(extents(world, ((), ("r",))), [((), somes(2, "all")), ((0,), somes(1, "all")), ((0, 1), "all")])
        self.assertEqual(extents(world, (("c",), ()))[0], ((), "c"))
        self.assertEqual([things for things, _ in extents(world, ((), ("s",)))], [(), (0, 1)])

    def test_one_thing(self):
        self.assertEqual(extents(World([()], [(0, "r", 0)]), ((), ("r",))), [((0,), "all")])

    def test_names_against_roles(self):
        edges = [(0, "r", 1), (1, "r", 2), (2, "r", 3), (4, "r", 2), (5, "r", 2)]
        world = World([("a", "b"), (), (), (), ("a",), ("b",)], edges)
        found = dict(self.check(world, (("a", "b"), ("r",))))
        self.assertEqual(sorted(found[0,]), ["a", "and", "b"])
        rows = [("a", "b", "c"), (), (), ("a", "b"), ("a", "c"), ("b", "c")]
        world = World(rows, [(0, "r", 1), (1, "r", 2), (3, "r", 2), (4, "r", 2), (5, "r", 2)])
        self.assertEqual(dict(self.check(world, (("a", "b", "c"), ("r",))))[0,], somes(2, "all"))
        found = dict(self.check(World([("a",), (), ()], [(0, "r", 1), (1, "r", 2)]), (("a",), ("r",))))
        self.assertEqual((found[0,], found[0, 1]), ("a", somes(1, "all")))

    def test_chains_and_rings(self):
        self.assertEqual(len(self.check(chain(20), ((), ("r",)))), 21)
        self.assertEqual(len(self.check(ring(6), (("a",), ("r",)))), 8)
        self.assertEqual(len(extents(chain(200), ((), ("r",)))), 201)

    def test_by_chance(self):
        for seed in range(60):
            chance = Chance(seed)
            self.check(chance.world(4), (chance.some_of(("a", "b")), chance.some_of(("r", "s"))))

    def test_refusals(self):
        for function in (extents, rules_of, WorldRules([], []).shows):
            for bad in BAD_WORLDS:
                with self.assertRaises(BadWorld):
                    function(bad, None)
            for bad in BAD_WORDS:
                with self.assertRaises(BadWords):
                    function(World([()], []), bad)


class Rules(unittest.TestCase):
    def check(self, world, words, chance):
        found = rules_of(world, words)
        self.assertIsInstance(found, WorldRules)
        self.assertIs(found.shows(world, words), True)
        self.assertEqual(broken_rules(found.rules, world), [])
        for index, rule in enumerate(found.rules):
            if rule[0] == "within":
                others = found.rules[:index] + found.rules[index + 1:]
                self.assertFalse(follows(others, rule[1], rule[2]))
        for _ in range(15):
            concept, other = chance.concept(3), chance.concept(3)
            held = slow_things(world, concept) <= slow_things(world, other)
            self.assertIs(follows(found.rules, concept, other), held)
        return found

    def test_by_chance(self):
        for seed in range(60):
            chance = Chance(seed)
            world, words = chance.world(4), (chance.some_of(("a", "b")), chance.some_of(("r", "s")))
            self.check(world, words, Chance(seed, *words) if words[0] else Chance(seed, ("all",), words[1]))

    def test_larger_worlds(self):
        for seed in range(3):
            chance = Chance(seed, names=("a", "b", "c"))
            self.check(chance.world(7, 0.2), (("a", "b", "c"), ("r", "s")), chance)

    def test_words_that_no_thing_has(self):
        world = World([("a",)], [])
        found = self.check(world, (("a", "b"), ("r", "s")), Chance(1))
        self.assertEqual(found.rules[-4:], [("below", "r", "s"), ("below", "s", "r"), ("passes", "r"), ("passes", "s")])

    def test_chains_and_rings(self):
        found = self.check(chain(40), ((), ("r",)), Chance(1, ("all",), ("r",)))
        self.assertEqual(found.rules, [("within", somes(40, "all"), "none")])
        self.assertEqual(len(found.concepts), 41)
        self.check(ring(5), (("a",), ("r",)), Chance(1, ("a",), ("r",)))
        self.check(World([()], [(0, "r", 0)]), ((), ("r",)), Chance(1, ("all",), ("r",)))

    def test_roles_of_the_world(self):
        world = World([(), ()], [(0, "r", 0), (0, "r", 1), (0, "s", 1), (1, "r", 1), (1, "t", 0)])
        found = self.check(world, ((), ("r", "s", "t")), Chance(1, ("all",), ("r", "s", "t")))
        self.assertEqual(found.rules[-5:], [("below", "s", "r"), ("itself", "r"), ("passes", "r"), ("passes", "s"),
                                            ("passes", "t")])
        self.assertEqual(found.rules[-6][0], "within")


class Shows(unittest.TestCase):
    def setUp(self):
        self.world = World([("a",), ("a", "b"), ()], [(0, "r", 1), (0, "s", 1), (1, "s", 2)])
        self.words = ("a", "b"), ("r", "s")
        self.found = rules_of(self.world, self.words)
        self.count = len([rule for rule in self.found.rules if rule[0] == "within"])

    def shows(self, rules, concepts):
        return WorldRules(rules, concepts).shows(self.world, self.words)

    def test_other_orders(self):
        rules, concepts = self.found.rules, self.found.concepts
        self.assertGreater(self.count, 2)
        self.assertIs(self.shows(tuple(rules), tuple(concepts)), True)
        self.assertIs(self.shows(rules[:self.count][::-1] + rules[self.count:], concepts[::-1]), True)
        self.assertIs(self.shows(rules, concepts + concepts), True)
        self.assertIs(self.shows(rules, concepts + [("and", "a", "b", "a"), ("some", "r", "b")]), True)

    def test_rules_altered(self):
        rules, concepts = self.found.rules, self.found.concepts
        self.assertEqual(rules[self.count:], [("below", "r", "s"), ("passes", "r")])
        for index in range(len(rules)):
            self.assertIs(self.shows(rules[:index] + rules[index + 1:], concepts), False, rules[index])
        for rule in [rules[0], ("within", "a", "a"), ("within", ("some", "r", "b"), ("some", "s", "b")),
                     ("within", "a", "b"), ("within", "c", "a"), ("within", "none", "a")]:
            self.assertIs(self.shows([rule, *rules], concepts), False, rule)
        for rule in [("below", "r", "r"), ("passes", "r"), ("passes", "s"), ("itself", "r"), ("passes", "t"),
                     ("within", "a", "all")]:
            self.assertIs(self.shows([*rules, rule], concepts), False, rule)
        self.assertIs(self.shows(rules[self.count:] + rules[:self.count], concepts), False)
        self.assertIs(self.shows(rules[:self.count] + rules[self.count:][::-1], concepts), False)
        self.assertIs(self.shows([], concepts), False)

    def test_needless_rules_by_chance(self):
        for seed in range(60):
            chance = Chance(seed)
            world, words = chance.world(4), (("a", "b"), ("r", "s")[:1 + seed % 2])
            found = rules_of(world, words)
            many = len([rule for rule in found.rules if rule[0] == "within"])
            for _ in range(6):
                rule = ("within", *chance.random.choices([*found.concepts, "none", ("and", "a", "b")], k=2))
                place = chance.random.randint(0, many)
                more = WorldRules([*found.rules[:place], rule, *found.rules[place:]], found.concepts)
                self.assertIs(more.shows(world, words), False, rule)
            for index in range(many):
                fewer = WorldRules(found.rules[:index] + found.rules[index + 1:], found.concepts)
                self.assertIs(fewer.shows(world, words), False, found.rules[index])

    def test_concepts_altered(self):
        rules, concepts = self.found.rules, self.found.concepts
        for index in range(len(concepts)):
            self.assertIs(self.shows(rules, concepts[:index] + concepts[index + 1:]), False, concepts[index])
        for concept in ["none", "c", ("some", "t", "all"), ("and", "a", "none")]:
            self.assertIs(self.shows(rules, [*concepts, concept]), False, concept)
        self.assertIs(self.shows(rules, []), False)

    def test_a_rule_too_weak(self):
        # without the rule, all things are in a, but all does not lie within a
        world, words = World([("a",)], []), (("a",), ())
        self.assertIs(WorldRules([("within", "all", "a")], ["all"]).shows(world, words), True)
        self.assertIs(WorldRules([("within", "all", "a")], ["a"]).shows(world, words), True)
        self.assertIs(WorldRules([], ["all", "a"]).shows(world, words), False)
        self.assertIs(WorldRules([], ["all"]).shows(world, words), False)
        self.assertIs(WorldRules([("within", "all", ("and", "a", "a"))], ["all"]).shows(world, words), True)

    def test_rules_that_the_world_does_not_keep(self):
        words = ("a",), ()
        for world in (World([()], []), World([("a",), ()], [])):
            self.assertIs(WorldRules([("within", "all", "a")], ["all"]).shows(world, words), False)
        self.assertIs(WorldRules([("within", "all", "none")], ["all"]).shows(World([()], []), ((), ())), False)

    def test_nothing(self):
        world, words = World([()], []), (("a",), ())
        self.assertIs(WorldRules([("within", "a", "none")], ["all", "a"]).shows(world, words), True)
        self.assertIs(WorldRules([("within", "a", "none")], ["all"]).shows(world, words), False)
        self.assertIs(WorldRules([], ["all", "a"]).shows(world, words), False)

    def test_other_arguments(self):
        self.assertIs(self.found.shows(self.world, (("a", "b"), ("r",))), False)
        self.assertIs(self.found.shows(World(self.world.names(), self.world.edges()[1:]), self.words), False)
        self.assertIs(self.found.shows(World(self.world.names(), self.world.edges()), self.words), True)

    def test_equality_and_copies(self):
        rules, concepts = list(self.found.rules), list(self.found.concepts)
        other = WorldRules(tuple(rules), concepts)
        self.assertTrue(self.found == other)
        concepts.clear()
        self.assertFalse(self.found != other)
        other.rules.append(("passes", "s"))
        self.assertTrue(self.found != other)
        self.assertIs(other.shows(self.world, self.words), False)
        self.assertTrue(WorldRules([], []) != WorldRules([], ["all"]))
        self.assertIsInstance(WorldRules((), ()).concepts, list)


if __name__ == "__main__":
    unittest.main()
