"""[29] Told apart by examples."""

import copy
import unittest

from conceptworlds.answering import answer, is_possible
from conceptworlds.concepts import depth, parts, words_in
from conceptworlds.errors import BadBook, BadThing, BadWords, BadWorld, NotPossible
from conceptworlds.examples import Mixed, Separated, separate
from conceptworlds.sharing import shared_things, told_data
from conceptworlds.taking import TakenIn
from conceptworlds.worlds import World
from tests.support import BAD_BOOKS, OTHERS, Chance, chain, rename, rename_told, slow_levels, somes
from tests.test_taking import BAD_WORDS
from tests.test_wordrules import BAD_WORLDS

RBB = [("within", ("some", "r", "b"), "b")]
DATA = World([("a",), ("c",), ("b",), ()], [(0, "r", 2), (1, "r", 3), (3, "s", 3)])
WORDS = ("a", "b", "c"), ("r", "s")


def is_right(found, book, data, good, bad, words):
    """Whether evidence is as described, by the words of the document."""
    world, told = shared_things(book, data, good), told_data(book, data)
    if isinstance(found, Mixed):
        return found.thing in bad and TakenIn(found.pairs).shows(*world, told, found.thing, words)
    names, roles = words_in(found.concept)
    if not set(names) <= set(words[0]) or not set(roles) <= set(words[1]) or "none" in parts(found.concept):
        return False
    certain = set(answer(book, data, found.concept).things)
    if not set(good) <= certain or certain & set(bad):
        return False
    levels = slow_levels(world[0], told, words)
    return found.depth == depth(found.concept) == max([0, *[levels[world[1], thing] for thing in bad]])


class Separating(unittest.TestCase):
    def test_ordinary(self):
        self.assertEqual(separate([], DATA, (0,), (1,), WORDS), Separated("a", 0))
        self.assertEqual(separate([], DATA, (0,), (1,), (("b",), ("r",))), Separated(somes(1, "b"), 1))
        self.assertEqual(separate(RBB, DATA, (0,), (1,), (("b",), ("r",))), Separated("b", 0))
        self.assertEqual(separate([], DATA, (0, 1), (2, 3), WORDS), Separated(somes(1, "all"), 1))
        self.assertEqual(separate([], DATA, (2,), (0, 1, 3), WORDS), Separated("b", 0))
        self.assertIsInstance(separate([], DATA, (0, 1), (0,), WORDS), Mixed)
        self.assertIsInstance(separate([("within", "all", "b")], DATA, (0, 1), (2, 3), (("a", "b", "c"), ())), Mixed)

    def test_no_bad_thing(self):
        for good in [(0,), (0, 1, 2, 3)]:
            for words in [WORDS, ((), ())]:
                self.assertEqual(separate(RBB, DATA, good, (), words), Separated("all", 0))

    def test_words_without(self):
        self.assertIsInstance(separate([], DATA, (0,), (1,), ((), ("r",))), Mixed)
        self.assertIsInstance(separate([], DATA, (0,), (1,), ((), ())), Mixed)
        self.assertIsInstance(separate([], DATA, (0,), (1,), (("c",), ("q",))), Mixed)
        self.assertEqual(separate([], DATA, (1,), (0,), ((), ("r", "s"))), Separated(("some", "r", ("some", "s", "all")), 2))
        self.assertEqual(separate([], DATA, (1,), (0,), (("c",), ())), Separated("c", 0))

    def test_bad_thing_that_is_good_too(self):
        found = separate([], DATA, (1, 2), (1, 3), WORDS)
        self.assertIsInstance(found, Mixed)
        self.assertIn(found.thing, (1, 3))
        self.assertIsInstance(separate([], DATA, (0,), (0,), WORDS), Mixed)

    def test_only_at_some_depth(self):
        data = World([()] * 20 + [("b",)] + [()] * 21, sorted([*chain(21).edges(), *[(x + 21, role, y + 21) for x, role, y in chain(21).edges()]]))
        self.assertEqual(separate([], data, (0,), (21,), (("b",), ("r",))), Separated(somes(20, "b"), 20))
        self.assertIsInstance(separate([], data, (21,), (0,), (("b",), ("r",))), Mixed)
        self.assertEqual(separate([], data, (3,), (4, 21, 23), (("b",), ("r",))), Separated(somes(17, "b"), 17))
        ring = World([("a",), (), ()], [(0, "r", 1), (1, "r", 2), (2, "r", 0)])
        self.assertEqual(separate([], ring, (1,), (0,), (("a",), ("r",))), Separated(somes(2, "a"), 2))
        self.assertIsInstance(separate([("within", somes(1, "a"), "a")], ring, (1,), (0,), (("a",), ("r",))), Mixed)

    def test_terms_further_on(self):
        book = [("within", "a", ("some", "r", ("some", "s", "d"))), ("within", "c", ("some", "r", "d"))]
        data = World([("a",), ("c",), ("a", "c")], [])
        self.assertEqual(separate(book, data, (0,), (1,), ((), ("r", "s"))), Separated(("some", "r", ("some", "s", "all")), 2))
        self.assertEqual(separate(book, data, (1, 2), (0,), (("d",), ("r", "s"))), Separated(("some", "r", "d"), 1))
        self.assertEqual(separate([*book, ("passes", "r"), ("below", "s", "r")], data, (0, 1), (), (("d",), ("r", "s"))).depth, 0)
        self.assertIsInstance(separate(book, data, (0, 1), (2,), WORDS), Mixed)

    def test_by_chance(self):
        found = {}
        for seed in range(400):
            chance = Chance(seed, names=("a", "b", "c"))
            book, data = chance.book(seed % 5), chance.world(4, 0.2)
            words = chance.some_of(("a", "b", "c", "d")), chance.some_of(("r", "s", "t"))
            things = range(len(data))
            good = tuple(sorted({chance.random.choice(things) for _ in range(1 + seed % 3)}))
            bad = tuple(x for x in things if chance.random.random() < 0.5 and (x not in good or chance.random.random() < 0.1))
            if not is_possible(book, data):
                for function in (separate, Separated("all", 0).shows, Mixed(0, []).shows):
                    with self.assertRaises(NotPossible):
                        function(book, data, good, bad, words)
                continue
            evidence = separate(book, data, good, bad, words)
            self.assertTrue(evidence.shows(book, data, good, bad, words))
            self.assertTrue(is_right(evidence, book, data, good, bad, words))
            self.assertEqual(separate(book, data, good, bad, words), evidence)
            if isinstance(evidence, Mixed):
                for told in [chance.concept(2, False) for _ in range(4)]:
                    certain = answer(book, data, told).things
                    if set(words_in(told)[0]) <= set(words[0]) and set(words_in(told)[1]) <= set(words[1]) and set(good) <= set(certain):
                        self.assertIn(evidence.thing, certain)
            others = {**OTHERS, "d": "e"}
            other = separate(rename(book, others), rename(data, others), good, bad, rename_told(words, others))
            self.assertEqual((type(other), getattr(other, "depth", None)), (type(evidence), getattr(evidence, "depth", None)))
            key = getattr(evidence, "depth", "mixed") if bad else "no bad"
            found[key] = found.get(key, 0) + 1
        self.assertTrue(all(found[key] > 10 for key in (0, "mixed", "no bad")) and found[1] > 3, found)


class Shows(unittest.TestCase):
    def check(self, right, evidence, *question):
        self.assertIs(evidence.shows(*question), right)
        self.assertIs(is_right(evidence, *question), right)

    def test_separated(self):
        question = RBB, DATA, (0,), (1, 3), (("b",), ("r", "s"))
        for told, level, right in [("b", 0, True), (("and", "b", "b", "all"), 0, True), ("b", 1, False), ("b", -1, False), (somes(1, "b"), 1, False), ("a", 0, False),
                                   ("none", 0, False), (("and", "b", "none"), 0, False), ("all", 0, False), ("c", 0, False), (("and", "b", somes(1, "all")), 1, False),
                                   (("and", "b", somes(1, "all")), 0, False), (somes(1, "b"), 0, False)]:
            self.check(right, Separated(told, level), *question)
        question = [], DATA, (0,), (1, 3), (("b",), ("r", "s"))
        for told, level, right in [(somes(1, "b"), 1, True), (somes(1, ("and", "b", "all")), 1, True), ("b", 0, False), (somes(1, "all"), 1, False), (somes(1, "c"), 1, False),
                                   (somes(2, "b"), 2, False), (("some", "s", "b"), 1, False), (("and", somes(1, "b"), "a"), 1, False), (somes(1, "b"), 0, False)]:
            self.check(right, Separated(told, level), *question)
        self.check(False, Separated(somes(1, "all"), 1), [], DATA, (0,), (2,), (("b",), ()))
        self.check(True, Separated(somes(1, "all"), 1), [], DATA, (0,), (2,), (("b",), ("r",)))
        self.check(False, Separated(somes(1, "all"), 1), [], DATA, (0, 2), (3,), (("b",), ("r",)))
        self.check(False, Separated("c", 0), [], DATA, (1,), (1,), WORDS)

    def test_mixed(self):
        question = [], DATA, (0, 1), (1, 2), WORDS
        found = separate(*question)
        self.check(True, found, *question)
        for thing in (0, 2, 3, -1, 7):
            self.check(False, Mixed(thing, found.pairs), *question)
        pairs = found.pairs
        self.assertGreater(len(pairs), 1)
        self.check(True, Mixed(found.thing, tuple(pairs)), *question)
        for other in [pairs[1:], pairs[:-1], pairs[::-1], [*pairs, pairs[-1]], [*pairs, (9, 9)], [], [*pairs[:1], *pairs], [(y, x) for x, y in pairs]]:
            self.check(False, Mixed(found.thing, other), *question)
        self.check(False, Mixed(1, pairs), [], DATA, (0, 1), (2,), WORDS)

    def test_altered_by_chance(self):
        for seed in range(100):
            chance = Chance(seed)
            data, words = chance.world(4, 0.2), WORDS
            good, bad = (chance.random.randrange(len(data)),), tuple(x for x in range(len(data)) if chance.random.random() < 0.4)
            found = separate([], data, good, bad, words)
            if isinstance(found, Separated):
                told = chance.concept(2)
                self.check(is_right(Separated(told, depth(told)), [], data, good, bad, words), Separated(told, depth(told)), [], data, good, bad, words)
            else:
                pairs = [pair for pair in found.pairs if chance.random.random() < 0.8]
                self.check(is_right(Mixed(found.thing, pairs), [], data, good, bad, words), Mixed(found.thing, pairs), [], data, good, bad, words)

    def test_new_each_time(self):
        found = separate([], DATA, (0, 1), (1,), WORDS)
        before = copy.deepcopy(found)
        found.pairs.append((5, 5))
        self.assertEqual(separate([], DATA, (0, 1), (1,), WORDS), before)
        self.assertNotEqual(found, before)


class Refusals(unittest.TestCase):
    def test_in_order(self):
        never = [("within", "all", "none")]
        for function in (separate, Separated("a", 0).shows, Mixed(0, []).shows):
            for bad in BAD_BOOKS:
                with self.assertRaises(BadBook):
                    function(bad, None, None, None, None)
            for bad in BAD_WORLDS:
                with self.assertRaises(BadWorld):
                    function(never, bad, None, None, None)
            wrong = [None, 0, True, [0], [], (0, 0), (1, 0), (True,), (False,), (4,), (-1,), ("a",), ((0,),), (0, None), {}, {0: 1}, "a"]
            for bad in [*wrong, ()]:
                with self.assertRaises(BadThing):
                    function(never, DATA, bad, None, None)
                with self.assertRaises(BadThing):
                    function(never, DATA, bad, (1,), WORDS)
            for bad in wrong:
                with self.assertRaises(BadThing):
                    function(never, DATA, (0, 3), bad, None)
                with self.assertRaises(BadThing):
                    function(never, DATA, (0, 3), bad, WORDS)
            for bad in BAD_WORDS:
                with self.assertRaises(BadWords):
                    function(never, DATA, (0, 3), (1,), bad)
            with self.assertRaises(NotPossible):
                function(never, DATA, (0, 3), (), WORDS)



if __name__ == "__main__":
    unittest.main()
