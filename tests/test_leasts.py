"""[18] The least concept of a thing, and the least one of a depth at most."""

import copy
import unittest

from conceptworlds.concepts import depth, size, words_in
from conceptworlds.errors import BadBook, BadNumber, BadThing, BadWords, BadWorld, TooLarge
from conceptworlds.following import follows
from conceptworlds.leasts import Endless, Least, least_in_depth, least_of
from conceptworlds.reduced import reduced
from conceptworlds.toldworlds import told_world
from conceptworlds.views import step, view
from conceptworlds.worlds import World
from tests.support import (BAD_BOOKS, OTHERS, Chance, chain, keeping_world, rename, rename_told, ring, seen_in_words,
                           shuffled, slow_closing, slow_things, somes, unravelled)
from tests.test_taking import BAD_WORDS
from tests.test_wordrules import BAD_WORLDS

LOOP = World([("a",)], [(0, "r", 0)])
PASSES = [("passes", "r")]


def in_words(concept, words):
    names, roles = words_in(concept)
    return words is None or set(names) <= set(words[0]) and set(roles) <= set(words[1])


def least_depth(book, world, thing, words, most=3):
    """The least depth at which all is said of a thing, by the words of the document; None for more than the most."""
    told = words or (world.words()[0], ("q", "r", "s", "t"))
    for level in range(most + 1):
        if thing in view(book, world, seen_in_words(world, thing, level, told), told_words=words)[1]:
            return level
    return None


def is_right(found, book, world, thing, words):
    """Whether a Least or an Endless is as described, by the words of the document, for depths of at most three."""
    if isinstance(found, Least):
        if not in_words(found.concept, words) or thing not in slow_things(world, found.concept):
            return False
        if thing not in view(book, world, found.concept, told_words=words)[1]:
            return False
        return found.depth == depth(found.concept) == least_depth(book, world, thing, words)
    if len(found.concepts) != len(world) or not all(in_words(concept, words) for concept in found.concepts):
        return False
    for x, concept in enumerate(found.concepts):
        seen = step(world, x, found.concepts, told_words=words)
        if view(book, world, concept, told_words=words) != view(book, world, seen, told_words=words):
            return False
    return thing not in view(book, world, found.concepts[thing], told_words=words)[1]


class Leasts(unittest.TestCase):
    def test_ordinary(self):
        self.assertEqual(least_of([], World([("a", "b")], []), 0), Least(("and", "a", "b"), 0))
        self.assertEqual(least_of([], World([()], []), 0), Least("all", 0))
        world = World([("a",), ("b",), ()], [(0, "r", 1), (1, "s", 2)])
        self.assertEqual(least_of([], world, 0), Least(("and", "a", ("some", "r", ("and", "b", ("some", "s", "all")))), 2))
        self.assertEqual(least_of([("within", "b", ("some", "s", "all"))], world, 0), Least(("and", "a", ("some", "r", "b")), 1))
        self.assertEqual(least_of([("within", ("some", "r", "all"), ("some", "r", ("and", "b", ("some", "s", "all"))))], world, 0).concept,
                         ("and", "a", ("some", "r", "all")))

    def test_told_words(self):
        world = World([("a",), ("b",), ("c",)], [(0, "r", 1), (0, "s", 2), (1, "r", 2)])
        for words, told in [(((), ()), "all"), ((("a",), ()), "a"), ((("b",), ()), "all"), (((), ("s",)), somes(1, "all", "s")),
                            ((("c",), ("r",)), somes(2, "c")), ((("d",), ("q",)), "all"), ((("a", "c"), ("q", "s")), ("and", "a", somes(1, "c", "s")))]:
            found = least_of([], world, 0, told_words=words)
            self.assertTrue(found.shows([], world, 0, told_words=words))
            self.assertEqual((reduced(found.concept), found.depth), (told, depth(told)))

    def test_rings(self):
        self.assertIsInstance(least_of([], LOOP, 0), Endless)
        self.assertIsInstance(least_of([], ring(3), 1), Endless)
        self.assertIsInstance(least_of([], World([(), ("a",)], [(0, "r", 1), (1, "r", 1)]), 0), Endless)
        self.assertEqual(least_of([], LOOP, 0, told_words=(("a",), ("s",))), Least("a", 0))
        self.assertEqual(least_of([], World([("a",), ()], [(0, "r", 0)]), 1), Least("all", 0))

    def test_rings_that_a_rule_makes_harmless(self):
        for book, told in [([("itself", "r")], "a"), ([("within", "a", ("some", "r", "a"))], "a"),
                           ([("within", ("some", "r", "a"), ("some", "r", ("some", "r", "a"))), ("within", ("some", "r", ("some", "r", "a")), ("and", "a", ("some", "r", "a")))], None)]:
            found = least_of(book, LOOP, 0)
            if told is not None:
                self.assertEqual(found, Least(told, 0))
            self.assertTrue(found.shows(book, LOOP, 0))
        self.assertEqual(least_of([("within", ("some", "r", "all"), somes(2, "all"))], World([()], [(0, "r", 0)]), 0), Least(somes(1, "all"), 1))
        world = World(ring(4).names(), slow_closing(PASSES, 4, ring(4).edges()))
        self.assertIsInstance(least_of(PASSES, world, 0), Endless)
        self.assertEqual(least_of([*PASSES, ("within", "all", ("some", "r", "a"))], world, 2), Least("all", 0))
        deep = [("within", somes(3, "a"), ("and", "b", somes(4, "a")))]
        found = least_of(deep, World([("a", "b")], [(0, "r", 0)]), 0)
        self.assertTrue(found.shows(deep, World([("a", "b")], [(0, "r", 0)]), 0))

    def test_terms_that_have_no_least_concept_in_words(self):
        book = [("within", "a", ("some", "r", "a")), ("within", "b", "a")]
        world, terms = told_world(book, "b")
        self.assertEqual(least_of(book, world, terms.index("b"), told_words=(("a", "c"), ("r",))), Least("a", 0))
        self.assertIsInstance(least_of(book, world, terms.index("b"), told_words=(("c",), ("r",))), Endless)
        self.assertEqual(least_of(book, world, terms.index("b"), told_words=(("c",), ())), Least("all", 0))

    def test_roles_of_the_book_alone(self):
        book = [("within", "a", ("some", "q", "b")), ("within", ("some", "q", "b"), "a"), ("itself", "s")]
        world = World([(), ("a", "b")], [(0, "r", 1), (0, "s", 0), (1, "q", 1), (1, "s", 1)])
        self.assertTrue(least_of(book, world, 0).shows(book, world, 0))
        self.assertEqual(least_of(book, world, 0, told_words=(("a", "b"), ("r", "s"))), Least(("some", "r", ("and", "a", "b")), 1))
        self.assertIsInstance(least_of(book, world, 1), Endless)

    def test_by_chance(self):
        found = {}
        for seed in range(400):
            chance = Chance(seed, names=("a", "b", "c")[:1 + seed % 3])
            book = chance.book(5)
            world = keeping_world(chance, book)
            if world is None:
                continue
            words = None if seed % 3 == 0 else (chance.some_of(("a", "b", "c")), chance.some_of(("r", "s", "t")))
            for x in range(len(world)):
                evidence = least_of(book, world, x, told_words=words)
                self.assertTrue(evidence.shows(book, world, x, told_words=words))
                self.assertTrue(is_right(evidence, book, world, x, words))
                self.assertEqual(least_of(book, world, x, told_words=words), evidence)
                self.assertIs(type(least_of(shuffled(book, chance), world, x, told_words=words)), type(evidence))
                others = None if words is None else rename_told(words, OTHERS)
                other = least_of(rename(book, OTHERS), rename(world, OTHERS), x, told_words=others)
                self.assertEqual((type(other), getattr(other, "depth", None)), (type(evidence), getattr(evidence, "depth", None)))
                if isinstance(evidence, Endless):
                    self.assertIsNone(least_depth(book, world, x, words))
                kind = getattr(evidence, "depth", "endless")
                found[kind] = found.get(kind, 0) + 1
        self.assertTrue(all(found[kind] > 3 for kind in (0, 1, 2, "endless")), found)

    def test_large(self):
        self.assertEqual(least_of([], chain(60), 0), Least(somes(59, "all"), 59))
        layers = World([("a",), ("b",)] * 20, sorted((2 * at + x, "r", 2 * at + 2 + y) for at in range(19) for x in (0, 1) for y in (0, 1)))
        same = World([()] * 40, layers.edges())
        self.assertEqual(least_of([], same, 0), Least(somes(19, "all"), 19))
        self.assertEqual(size(least_of([], layers, 22).concept), 1021)
        book = [("within", "a", ("some", "r", ("and", "a", ("some", "r", "b")))), ("within", "b", ("some", "r", "b"))]
        self.assertTrue(least_of(book, World([("a", "b")], [(0, "r", 0)]), 0).shows(book, World([("a", "b")], [(0, "r", 0)]), 0))
        self.assertIsInstance(least_of([], ring(80), 5), Endless)


class Shows(unittest.TestCase):
    def check(self, right, evidence, book, world, thing, words=None):
        self.assertIs(evidence.shows(book, world, thing, told_words=words), right)
        if not isinstance(evidence, Least) or isinstance(evidence.depth, int) and evidence.depth < 4:
            self.assertIs(is_right(evidence, book, world, thing, words), right)

    def test_least(self):
        book = [("within", "b", ("some", "s", "all"))]
        world = World([("a",), ("b",), (), ("c",)], [(0, "r", 1), (0, "r", 3), (1, "s", 2)])
        least = ("and", "a", ("some", "r", "b"), ("some", "r", "c"))
        for told, level, right in [(least, 1, True), (least, 0, False), (least, 2, False), (least, -1, False),
                                   (("and", ("some", "r", "c"), "all", ("some", "r", "b"), "a"), 1, True),
                                   (("and", "a", ("some", "r", "b")), 1, False), ("a", 0, False), ("none", 0, False),
                                   (("and", *least[1:], ("some", "r", ("and", "b", ("some", "s", "all")))), 2, False),
                                   (("and", *least[1:], "d"), 1, False), (("and", *least[1:], "b"), 1, False),
                                   (("and", *least[1:], ("some", "q", "all")), 1, False)]:
            self.check(right, Least(told, level), book, world, 0)
        self.check(True, Least(("and", "b", ("some", "s", "all")), 1), [], world, 1)
        self.check(False, Least("b", 0), [], world, 1)
        self.check(True, Least("b", 0), book, world, 1)
        self.check(False, Least(("and", "b", ("some", "s", "all")), 1), book, world, 1)
        self.check(False, Least("all", 0), [], world, 3)
        self.check(False, Least("c", 0), [], world, 3, (("a",), ()))
        self.check(True, Least("all", 0), [], world, 3, (("a",), ()))
        self.check(False, Least("a", 0), [], LOOP, 0)

    def test_endless(self):
        world = World([("a",), (), ("b",)], [(0, "r", 1), (1, "r", 0)])
        for told, right in [(["a", somes(1, "a"), "b"], True), ([("and", "a", somes(2, "a")), somes(3, "a"), ("and", "b", "all")], True),
                            (("a", somes(1, "a"), "b"), True), (["a", somes(1, "a")], False), (["a", somes(1, "a"), "b", "all"], False),
                            (["a", somes(1, "all"), "b"], True), (["a", "all", "b"], True), ([somes(2, "a"), somes(1, "a"), "b"], False),
                            (["none", somes(1, "a"), "b"], False), (["none", "none", "none"], False), ([], False), (["a", somes(1, "a"), "all"], False)]:
            self.check(right, Endless(told), [], world, 0)
        self.check(False, Endless(["a", somes(1, "a"), "b"]), [], world, 2)
        self.check(False, Endless(["none", "none", "b"]), [], world, 0)
        self.check(False, Endless(["a", somes(1, "a"), "b"]), [("itself", "r")], World(world.names(), slow_closing([("itself", "r")], 3, world.edges())), 0)
        self.assertEqual(Endless(("a",)).concepts, ["a"])

    def test_endless_in_words(self):
        world = World([("a",), (), ("b",)], [(0, "r", 1), (1, "r", 0)])
        words = ("a",), ("r",)
        self.check(True, Endless([("and", "a", somes(1, "all")), somes(1, "a"), "all"]), [], world, 0, words)
        self.check(False, Endless(["a", somes(1, "a"), "all"]), [], world, 0, words)
        self.check(False, Endless(["a", somes(1, "a"), "b"]), [], world, 0, words)
        self.check(False, Endless(["a", somes(1, "a"), ("some", "q", "all")]), [], world, 0, words)
        self.check(False, Endless(["all", "all", "all"]), [], world, 0, ((), ("r",)))
        self.check(True, Endless([somes(1, "all"), somes(1, "all"), "all"]), [], world, 0, ((), ("r",)))
        self.check(True, Endless([somes(7, "all"), somes(2, "all"), "all"]), [], world, 0, ((), ("r",)))
        # without told words the concepts may have all words
        self.check(True, Endless(["x"]), [], World([()], [(0, "r", 0)]), 0)
        self.check(True, Endless([("some", "y", "x")]), [], World([()], [(0, "r", 0)]), 0)
        self.check(False, Endless(["none"]), [], World([()], [(0, "r", 0)]), 0)
        self.check(False, Endless([("some", "y", "none")]), [], World([()], [(0, "r", 0)]), 0)
        self.check(False, Endless(["x"]), [], World([()], [(0, "r", 0)]), 0, ((), ("r",)))

    def test_altered_by_chance(self):
        for seed in range(150):
            chance = Chance(seed)
            book = chance.book(4)
            world = keeping_world(chance, book, 3)
            if world is None:
                continue
            found = least_of(book, world, 0)
            if isinstance(found, Endless):
                told = list(found.concepts)
                at = chance.random.randrange(len(told))
                told[at] = chance.random.choice([chance.concept(1), ("and", told[at], chance.concept(1)), ("some", "r", told[at])])
                self.check(is_right(Endless(told), book, world, 0, None), Endless(told), book, world, 0)
            elif found.depth < 3:
                other = chance.random.choice([chance.concept(1), ("and", found.concept, chance.concept(1)), somes(1, found.concept)])
                self.check(is_right(Least(other, depth(other)), book, world, 0, None), Least(other, depth(other)), book, world, 0)

    def test_new_each_time(self):
        found = least_of([], LOOP, 0)
        before = copy.deepcopy(found)
        found.concepts.append("b")
        self.assertEqual(least_of([], LOOP, 0), before)
        self.assertNotEqual(found, before)
        self.assertNotEqual(Least("a", 0), Least("b", 0))
        self.assertNotEqual(Least("a", 0), Least("a", 1))


class InDepth(unittest.TestCase):
    def test_ordinary(self):
        world = World([("b", "c"), ("a",)], [(0, "r", 1), (1, "r", 0), (1, "s", 1)])
        self.assertEqual(least_in_depth(world, 0, 0), ("and", "b", "c"))
        self.assertEqual(least_in_depth(world, 0, 1), ("and", "b", "c", ("some", "r", "a")))
        self.assertEqual(least_in_depth(world, 1, 1), ("and", "a", ("some", "r", ("and", "b", "c")), ("some", "s", "a")))
        self.assertEqual(least_in_depth(World([()], []), 0, 20), "all")
        self.assertEqual(least_in_depth(LOOP, 0, 20)[1], "a")
        self.assertEqual(depth(least_in_depth(LOOP, 0, 20)), 20)

    def test_by_chance(self):
        for seed in range(60):
            world = Chance(seed).world(4, 0.2)
            for level in range(4):
                found = least_in_depth(world, 0, level)
                self.assertEqual(found, reduced(unravelled(world, 0, level)))
                self.assertLessEqual(depth(found), level)
                self.assertIn(0, slow_things(world, found))

    def test_limits(self):
        def many(nodes):
            return World([()] * 2, [(0, "r", 1)]) if nodes < 3 else World([()] * nodes, [(0, "r", x) for x in range(1, nodes)])

        self.assertEqual(least_in_depth(many(2000), 0, 1), somes(1, "all"))
        self.assertEqual(least_in_depth(many(2000), 1, 20), "all")
        with self.assertRaises(TooLarge):
            least_in_depth(many(2001), 0, 1)
        self.assertEqual(least_in_depth(many(2001), 0, 0), "all")
        both = World([(), ()], [(x, "r", y) for x in (0, 1) for y in (0, 1)])
        self.assertEqual(least_in_depth(both, 0, 9), somes(9, "all"))
        for level in (10, 20):
            with self.assertRaises(TooLarge):
                least_in_depth(both, 0, level)

    def test_refusals(self):
        for bad in BAD_WORLDS:
            with self.assertRaises(BadWorld):
                least_in_depth(bad, None, None)
        for bad in [None, True, False, -1, 1, "a", (0,)]:
            with self.assertRaises(BadThing):
                least_in_depth(LOOP, bad, None)
        for bad in [None, True, False, -1, 21, "1", 10 ** 20, (1,)]:
            with self.assertRaises(BadNumber):
                least_in_depth(World([()] * 3, [(0, "r", x) for x in range(3)]), 0, bad)


class Refusals(unittest.TestCase):
    def test_in_order(self):
        for function in (least_of, Least("a", 0).shows, Endless([]).shows):
            for bad in BAD_BOOKS:
                with self.assertRaises(BadBook):
                    function(bad, None, None, told_words=1)
            for bad in BAD_WORLDS:
                with self.assertRaises(BadWorld):
                    function([], bad, None, told_words=1)
            for book in ([("within", "a", "b")], [("itself", "s")], [("within", "all", "none")]):
                with self.assertRaises(BadWorld):
                    function(book, LOOP, None, told_words=1)
            for bad in [None, True, False, -1, 1, "a", (0,)]:
                with self.assertRaises(BadThing):
                    function([], LOOP, bad, told_words=1)
            for bad in [one for one in BAD_WORDS if one is not None]:
                with self.assertRaises(BadWords):
                    function([], LOOP, 0, told_words=bad)


if __name__ == "__main__":
    unittest.main()
