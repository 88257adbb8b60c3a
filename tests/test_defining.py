"""[21] Said in told words, and [28] between."""

import copy
import unittest

from conceptworlds.concepts import depth, words_in
from conceptworlds.defining import Between, NoneBetween, Said, Unsaid, between, is_said, judge_said
from conceptworlds.errors import BadBook, BadConcept, BadWords, NotFollows
from conceptworlds.following import follows
from conceptworlds.kinds import kind
from conceptworlds.toldworlds import told_world
from conceptworlds.views import step
from tests.support import BAD_BOOKS, OTHERS, Chance, rename, rename_told, seen_in_words, shuffled, small_concepts, somes
from tests.test_plain import BAD_CONCEPTS
from tests.test_taking import BAD_WORDS

BOOK = [("within", "a", ("some", "r", "b")), ("within", ("some", "r", "b"), "a")]
NEVER = [("within", "all", "none")]


def in_words(concept, words):
    names, roles = words_in(concept)
    return set(names) <= set(words[0]) and set(roles) <= set(words[1])


def least_depth(book, concept, other, words, most=3):
    """The least depth of a concept in told words between two concepts, None for more than the most."""
    if follows(book, concept, "none"):
        return 0
    world, terms = told_world(book, concept, other, *words[0])
    for level in range(most + 1):
        if follows(book, seen_in_words(world, terms.index(concept), level, words), other):
            return level
    return None


def is_right(found, book, concept, other, words):
    """Whether evidence is as described, by the words of the document, for depths of at most three."""
    if isinstance(found, (Said, Between)):
        if not in_words(found.concept, words) or not follows(book, concept, found.concept) or not follows(book, found.concept, other):
            return False
        return found.depth == depth(found.concept) == least_depth(book, concept, other, words)
    if follows(book, concept, "none"):
        return False
    world, terms = told_world(book, concept, other, *words[0])
    asked = concept, other, *words[0]
    if len(found.concepts) != len(world) or not all(in_words(one, words) for one in found.concepts):
        return False
    for x, one in enumerate(found.concepts):
        if kind(book, one, *asked) != kind(book, step(world, x, found.concepts, told_words=words), *asked):
            return False
    return other not in kind(book, found.concepts[terms.index(concept)], *asked)


class Saying(unittest.TestCase):
    def test_ordinary(self):
        self.assertEqual(judge_said(BOOK, "a", (("b",), ("r",))), Said(("some", "r", "b"), 1))
        self.assertEqual(judge_said(BOOK, "a", (("a",), ("r",))), Said("a", 0))
        self.assertEqual(judge_said(BOOK, "a", (("a", "b"), ("r",))), Said("a", 0))
        self.assertEqual(judge_said(BOOK, ("and", "a", "all"), (("a",), ())), Said("a", 0))
        self.assertEqual(judge_said([("within", "all", "c")], "c", ((), ())), Said("all", 0))
        self.assertEqual(judge_said([("within", ("and", "b", "c"), "a"), ("within", "a", ("and", "b", "c"))], "a", (("b", "c", "d"), ())).concept,
                         ("and", "b", "c"))
        book = [*BOOK, ("within", "b", ("some", "s", "c")), ("within", ("some", "s", "c"), "b")]
        self.assertEqual(judge_said(book, "a", (("c",), ("r", "s"))), Said(("some", "r", ("some", "s", "c")), 2))
        self.assertEqual(judge_said(tuple(book), "a", (("b", "c"), ("r", "s"))).depth, 1)

    def test_nothing(self):
        for book, concept in [([], "none"), (NEVER, "a"), ([("within", ("some", "r", "b"), "none")], somes(3, "b"))]:
            self.assertEqual(judge_said(book, concept, ((), ())), Said("none", 0))
            self.assertEqual(judge_said(book, concept, (("b",), ("r",))).depth, 0)

    def test_not_said(self):
        for words in [((), ("r",)), (("b",), ()), (("c",), ("r", "s")), ((), ()), (("b",), ("s",))]:
            found = judge_said(BOOK, "a", words)
            self.assertIsInstance(found, Unsaid)
            self.assertTrue(is_right(found, BOOK, "a", "a", words))
            self.assertFalse(is_said(BOOK, "a", words))

    def test_at_no_depth(self):
        book = [("within", "a", ("some", "r", "a")), ("within", ("some", "r", "a"), "a")]
        words = ("b",), ("r",)
        self.assertIsInstance(judge_said(book, "a", words), Unsaid)
        book += [("within", somes(5, "all"), "a")]
        self.assertEqual(judge_said(book, "a", words), Said(somes(5, "all"), 5))
        self.assertEqual(judge_said([*book, ("within", "all", somes(1, "all"))], "a", words), Said("all", 0))

    def test_deep(self):
        book = [("within", one, ("some", "r", other)) for one, other in zip("abcdefghijkl", "bcdefghijklm")]
        book += [("within", ("some", "r", other), one) for one, other in zip("abcdefghijkl", "bcdefghijklm")]
        self.assertEqual(judge_said(book, "a", (("m",), ("r",))), Said(somes(12, "m"), 12))
        self.assertEqual(judge_said(book, "a", (("d", "m"), ("r",))), Said(somes(3, "d"), 3))
        self.assertIsInstance(judge_said(book, "a", (("m",), ("s",))), Unsaid)


class BetweenTwo(unittest.TestCase):
    def test_ordinary(self):
        book = [("within", "a", ("and", "b", ("some", "r", "c"))), ("within", ("some", "r", "c"), "d"), ("within", "b", "e")]
        self.assertEqual(between(book, "a", "d", (("c",), ("r",))), Between(("some", "r", "c"), 1))
        self.assertEqual(between(book, "a", "d", (("c", "d"), ("r",))), Between("d", 0))
        self.assertEqual(between(book, "a", "e", (("b", "c"), ("r",))), Between("b", 0))
        self.assertIsInstance(between(book, "a", "e", (("c", "d"), ("r",))), NoneBetween)
        self.assertIsInstance(between(book, "a", "d", (("b", "e"), ("r",))), NoneBetween)
        self.assertEqual(between(book, "a", somes(1, "all"), ((), ("r",))), Between(somes(1, "all"), 1))

    def test_itself_nothing_and_all(self):
        self.assertEqual(between(BOOK, "a", "a", (("b",), ("r",))), Between(somes(1, "b"), 1))
        self.assertEqual(between(BOOK, "none", "a", ((), ())), Between("none", 0))
        self.assertEqual(between(BOOK, "none", "none", ((), ())), Between("none", 0))
        self.assertEqual(between(BOOK, "a", "all", ((), ())), Between("all", 0))
        self.assertEqual(between(NEVER, "a", "b", (("c",), ())), Between("none", 0))
        self.assertEqual(between([("within", "all", "b")], "a", "b", (("c",), ())), Between("all", 0))
        self.assertIsInstance(between([], "a", "a", (("b",), ("r",))), NoneBetween)

    def test_goal_needs_little(self):
        names = ["x" + sign for sign in "abcdefgh"]
        book = [("within", "a", ("and", *names)), *[("within", name, ("some", "r", ("and", "a", name))) for name in names], ("within", "xc", "b")]
        self.assertEqual(between(book, "a", "b", (tuple(names), ("r",))), Between("xc", 0))
        self.assertEqual(between(book, "a", ("some", "r", ("some", "r", "b")), (("b",), ("r",))), Between(somes(2, "b"), 2))

    def test_by_chance(self):
        found = {}
        for seed in range(300):
            chance = Chance(seed, names=("a", "b", "c")[:2 + seed % 2])
            book = chance.book(6)
            words = chance.some_of(("a", "b", "c", "d")), chance.some_of(("r", "s", "t"))
            concept, other = chance.concept(2, seed % 4 == 0), chance.concept(2, seed % 4 == 0)
            for one, more in [(concept, concept), (concept, other), (("and", concept, other), other), (concept, "all")]:
                if not follows(book, one, more):
                    with self.assertRaises(NotFollows):
                        between(book, one, more, words)
                    continue
                evidence = between(book, one, more, words)
                self.assertTrue(evidence.shows(book, one, more, words))
                self.assertTrue(is_right(evidence, book, one, more, words))
                key = getattr(evidence, "depth", "none")
                found[key] = found.get(key, 0) + 1
                if one is more:
                    said = judge_said(book, one, words)
                    self.assertTrue(said.shows(book, one, words) and is_right(said, book, one, one, words))
                    self.assertIs(isinstance(said, Said), isinstance(evidence, Between))
                    self.assertIs(is_said(book, one, words), isinstance(evidence, Between))
                again = between(rename(shuffled(book, chance), OTHERS | {"d": "e"}), rename(one, OTHERS), rename(more, OTHERS), rename_told(words, OTHERS | {"d": "e"}))
                self.assertEqual((type(again), getattr(again, "depth", None)), (type(evidence), getattr(evidence, "depth", None)))
        self.assertTrue(all(found.get(key, 0) > 10 for key in (0, 1, 2, "none")), found)

    def test_small_concepts(self):
        for seed in range(60):
            chance = Chance(seed)
            book, words = chance.book(4), (("a",), ("r",))
            for concept in ("b", ("some", "s", "a"), ("and", "a", "b")):
                if isinstance(judge_said(book, concept, words), Unsaid):
                    for told in small_concepts(words, 4):
                        self.assertFalse(follows(book, concept, told) and follows(book, told, concept))


class Shows(unittest.TestCase):
    def test_said(self):
        book, words = [*BOOK, ("within", "d", "a")], (("b", "d"), ("r",))
        for told, level, right in [(somes(1, "b"), 1, True), (("and", "all", somes(1, "b")), 1, True), (somes(1, "b"), 0, False), (somes(1, "b"), 2, False),
                                   ("a", 0, False), ("d", 0, False), (somes(1, "all"), 1, False), (("and", somes(1, "b"), "d"), 1, False),
                                   (("and", somes(1, "b"), somes(1, "a")), 1, False), ("none", 0, False), (("and", somes(1, "b"), ("some", "s", "none")), 1, False)]:
            self.assertIs(Said(told, level).shows(book, "a", words), right)
            self.assertIs(is_right(Said(told, level), book, "a", "a", words), right)
            self.assertIs(Between(told, level).shows(book, "a", "a", words), right)
        for told, right in [(("and", "b", "none"), True), ("none", True), (somes(1, "none"), False), (("and", "q", "none"), False)]:
            self.assertIs(Said(told, depth(told)).shows(book, "none", words), right)
        loose = [*BOOK, ("within", somes(1, "b"), somes(2, "b"))]
        self.assertFalse(Said(("and", somes(1, "b"), somes(2, "b")), 2).shows(loose, "a", words))

    def test_between(self):
        book, words = [("within", "a", ("and", "b", somes(1, "c"))), ("within", "b", "e"), ("within", somes(1, "c"), "e")], (("b", "c"), ("r",))
        for told, level, right in [("b", 0, True), (somes(1, "c"), 1, False), (("and", "b", somes(1, "c")), 1, False), ("b", 1, False), ("e", 0, False),
                                   ("a", 0, False), ("c", 0, False), ("all", 0, False), ("none", 0, False), (("and", "b", "all"), 0, True)]:
            self.assertIs(Between(told, level).shows(book, "a", "e", words), right)
            self.assertIs(is_right(Between(told, level), book, "a", "e", words), right)
        self.assertTrue(Between(somes(1, "c"), 1).shows(book, "a", "e", (("c",), ("r",))))

    def test_lists(self):
        # the told world has the things a, all, b, some r b
        words, found = (("c",), ("r",)), judge_said(BOOK, "a", (("c",), ("r",)))
        self.assertEqual(told_world(BOOK, "a", "c")[1], ["a", "all", "b", "c", somes(1, "b")])
        for told, right in [(found.concepts, True), (tuple(found.concepts), True), (found.concepts[:-1], False), ([*found.concepts, "all"], False), (found.concepts[::-1], False),
                            ([somes(1, "all"), "all", "all", "c", somes(1, "all")], True), (["c", "all", "all", "c", somes(1, "all")], False),
                            (["a", "all", "all", "c", somes(1, "all")], False), ([somes(1, "b"), "all", "b", "c", somes(1, "b")], False),
                            (["none", "none", "none", "none", "none"], False), (["all", "all", "all", "c", "all"], True), (["all"] * 5, False), ([], False)]:
            self.assertIs(Unsaid(told).shows(BOOK, "a", words), right, told)
            self.assertIs(is_right(Unsaid(told), BOOK, "a", "a", words), right)
            self.assertIs(NoneBetween(told).shows(BOOK, "a", "a", words), right)
        self.assertFalse(Unsaid(["none"] * 5).shows(NEVER, "a", words))
        self.assertFalse(Unsaid([]).shows([("within", "a", "none")], "a", words))
        self.assertFalse(NoneBetween(found.concepts).shows(BOOK, "none", "a", words))

    def test_altered_by_chance(self):
        for seed in range(150):
            chance = Chance(seed)
            book, words = chance.book(4), (chance.some_of(("a", "b")), chance.some_of(("r", "s")))
            concept = chance.concept(1)
            told = Chance(seed, words[0] or ("all",), words[1]).concept(1)
            found = judge_said(book, concept, words)
            if isinstance(found, Said):
                other = Said(told, depth(told))
            else:
                other = Unsaid(found.concepts)
                other.concepts[chance.random.randrange(len(other.concepts))] = told
            if not isinstance(found, Said) or found.depth < 4:
                self.assertIs(other.shows(book, concept, words), is_right(other, book, concept, concept, words))

    def test_new_each_time(self):
        words = ("c",), ("r",)
        found = judge_said(BOOK, "a", words)
        before = copy.deepcopy(found)
        found.concepts.append("all")
        self.assertEqual(judge_said(BOOK, "a", words), before)
        self.assertNotEqual(found, before)
        self.assertEqual(between(BOOK, "a", "a", words), between(BOOK, "a", "a", words))
        self.assertNotEqual(Said("a", 0), Between("a", 0))
        self.assertNotEqual(Unsaid(["a"]), NoneBetween(["a"]))


class Refusals(unittest.TestCase):
    def test_said(self):
        for function in (judge_said, is_said, Said("a", 0).shows, Unsaid([]).shows):
            for bad in BAD_BOOKS:
                with self.assertRaises(BadBook):
                    function(bad, None, None)
            for bad in BAD_CONCEPTS:
                with self.assertRaises(BadConcept):
                    function(BOOK, bad, None)
            for bad in BAD_WORDS:
                with self.assertRaises(BadWords):
                    function(BOOK, "a", bad)

    def test_between(self):
        for function in (between, Between("a", 0).shows, NoneBetween([]).shows):
            for bad in BAD_BOOKS:
                with self.assertRaises(BadBook):
                    function(bad, None, None, None)
            for bad in BAD_CONCEPTS:
                with self.assertRaises(BadConcept):
                    function(BOOK, bad, None, None)
                with self.assertRaises(BadConcept):
                    function(BOOK, "a", bad, None)
                with self.assertRaises(BadConcept):
                    function(BOOK, bad, "a", ((), ()))
            for bad in BAD_WORDS:
                with self.assertRaises(BadWords):
                    function(BOOK, "a", "b", bad)
            with self.assertRaises(NotFollows):
                function(BOOK, "a", "b", ((), ()))


if __name__ == "__main__":
    unittest.main()
