"""[20] Weaker rules."""

import copy
import unittest

from conceptworlds.concepts import parts
from conceptworlds.errors import BadBook, BadConcept, BadIndex, NotFollows, TooLarge
from conceptworlds.following import Fails, Follows, follows, judge
from conceptworlds.plain import plainly_within
from conceptworlds.reduced import reduced
from conceptworlds.rising import above
from conceptworlds.weaker import Weaker, weaker
from conceptworlds.worlds import World
from tests.support import BAD_BOOKS, OTHERS, Chance, rename, somes
from tests.test_plain import BAD_CONCEPTS

BOOK = [("below", "s", "r"), ("within", "a", ("and", "b", ("some", "s", ("and", "c", "d")))), ("passes", "r"), ("within", ("some", "r", "c"), "e")]


def changed(book, rule, concept):
    return [*book[:rule], ("within", book[rule][1], concept), *book[rule + 1:]]


def concepts_of(found):
    return [[concept for concept, _ in found.lost], [concept for concept, _ in found.kept]]


def slow_concepts(book, rule, concept, other):
    """The concepts that are lost and kept, by the words of the document."""
    told = above(book[rule][2])
    keeps = [follows(changed(book, rule, one), concept, other) for one in told]
    lost = [one for one, kept in zip(told, keeps) if not kept]
    kept = [one for one, kept in zip(told, keeps) if kept]
    return [[one for one in lost if not any(more != one and plainly_within(more, one) for more in lost)],
            [one for one in kept if not any(more != one and plainly_within(one, more) for more in kept)]]


class Finding(unittest.TestCase):
    def test_ordinary(self):
        found = weaker(BOOK, 1, "a", ("and", "b", "e"))
        self.assertEqual(concepts_of(found), [[("and", "b", ("some", "s", "d")), ("some", "s", ("and", "c", "d"))], [("and", "b", ("some", "s", "c"))]])
        self.assertTrue(found.shows(BOOK, 1, "a", ("and", "b", "e")))
        self.assertEqual(concepts_of(weaker(BOOK, 3, "a", "e")), [["all"], ["e"]])
        self.assertEqual(concepts_of(weaker(BOOK, 3, "a", ("some", "r", "c"))), [[], ["all"]])
        self.assertEqual(concepts_of(weaker(tuple(BOOK), 1, ("some", "r", "a"), ("some", "r", "c"))), [[("and", "b", ("some", "s", "d"))], [("some", "s", "c")]])

    def test_kept_even_with_all(self):
        for concept, other in [("b", "b"), ("a", "all"), ("none", "x"), ("a", "a")]:
            found = weaker(BOOK, 1, concept, other)
            self.assertEqual(concepts_of(found), [[], ["all"]])
            self.assertTrue(found.shows(BOOK, 1, concept, other))
        self.assertEqual(concepts_of(weaker([("within", "a", "all")], 0, "b", "b")), [[], ["all"]])
        twice = [("within", "a", "b"), ("within", "a", "b")]
        self.assertEqual(concepts_of(weaker(twice, 1, "a", "b")), [[], ["all"]])

    def test_rule_whose_first_concept_is_nothing(self):
        book = [("within", "a", "none"), ("within", ("and", "a", "b"), "c"), ("within", "none", ("and", "a", "b"))]
        self.assertEqual(concepts_of(weaker(book, 1, "a", "c")), [[], ["all"]])
        self.assertEqual(concepts_of(weaker(book, 2, "none", "c")), [[], ["all"]])

    def test_limit(self):
        names = tuple("bcdefgh")
        self.assertEqual(len(above(("and", *names[:6]))), 64)
        found = weaker([("within", "a", ("and", *names[:6]))], 0, "a", ("and", "b", "c"))
        self.assertEqual(concepts_of(found), [[("and", "b", "d", "e", "f", "g"), ("and", "c", "d", "e", "f", "g")], [("and", "b", "c")]])
        with self.assertRaises(TooLarge):
            weaker([("within", "a", ("and", *names))], 0, "a", "b")
        self.assertEqual(concepts_of(weaker([("within", "a", somes(98, "b"))], 0, "a", somes(1, "all"))), [["all"], [somes(1, "all")]])
        self.assertEqual(len(above(somes(98, "b"))), 100)
        with self.assertRaises(TooLarge):
            weaker([("within", "a", somes(99, "b"))], 0, "a", "all")
        repeats = ("and", *["b"] * 20, *[("some", "r", "b")] * 20)
        self.assertEqual(concepts_of(weaker([("within", "a", repeats)], 0, "a", "b")), [[("some", "r", "b")], ["b"]])

    def test_by_chance(self):
        lost = 0
        for seed in range(250):
            chance = Chance(seed, names=("a", "b", "c"))
            book = chance.book(5) + [("within", chance.concept(1, False), chance.concept(3, False))]
            concept, other = chance.concept(1), chance.concept(2)
            for rule, (_, first, *rest) in enumerate(book):
                if book[rule][0] != "within" or "none" in parts(rest[0]):
                    with self.assertRaises(BadIndex):
                        weaker(book, rule, concept, other)
                    continue
                for one, more in [(concept, other), (first, rest[0]), (("and", first, concept), rest[0])]:
                    if not follows(book, one, more):
                        with self.assertRaises(NotFollows):
                            weaker(book, rule, one, more)
                        continue
                    try:
                        found = weaker(book, rule, one, more)
                    except TooLarge:
                        with self.assertRaises(TooLarge):
                            Weaker([], []).shows(book, rule, one, more)
                        continue
                    self.assertTrue(found.shows(book, rule, one, more))
                    self.assertEqual(concepts_of(found), slow_concepts(book, rule, one, more))
                    lost += len(found.lost)
                    renamed = weaker(rename(book, OTHERS), rule, rename(one, OTHERS), rename(more, OTHERS))
                    self.assertEqual(sorted(map(str, concepts_of(renamed)[0])), sorted(str(reduced(rename(told, OTHERS))) for told, _ in found.lost))
        self.assertGreater(lost, 200)


class Shows(unittest.TestCase):
    def setUp(self):
        self.question = BOOK, 1, "a", ("and", "b", "e")
        self.found = weaker(*self.question)

    def check(self, right, lost=None, kept=None):
        other = Weaker(self.found.lost if lost is None else lost, self.found.kept if kept is None else kept)
        self.assertIs(other.shows(*self.question), right)

    def judged(self, concept):
        return concept, judge(changed(BOOK, 1, concept), "a", ("and", "b", "e"))

    def test_pairs(self):
        lost, kept = self.found.lost, self.found.kept
        self.check(True)
        self.check(True, lost=tuple(lost), kept=tuple(kept))
        self.check(False, lost=lost[:1])
        self.check(False, lost=lost[1:])
        self.check(False, lost=[])
        self.check(False, kept=[])
        self.check(False, lost=lost[::-1])
        self.check(False, lost=[*lost, lost[1]])
        self.check(False, lost=[lost[0], lost[0], lost[1]])
        self.check(False, kept=[*kept, *kept])
        self.check(False, lost=sorted([*lost, self.judged("b")], key=str))
        self.check(False, lost=[lost[0], self.judged(("some", "s", "c")), lost[1]])
        self.check(False, lost=[self.judged("all"), *lost])
        self.check(False, kept=[self.judged(reduced(BOOK[1][2]))])
        self.check(False, kept=[*kept, self.judged(("and", "b", ("some", "s", ("and", "c", "d"))))])
        self.check(False, lost=kept, kept=lost)

    def test_concepts(self):
        lost, kept = self.found.lost, self.found.kept
        told, follows_it = kept[0]
        for other in [("and", ("some", "s", "c"), "b"), ("and", "b", ("some", "s", ("and", "c", "c"))), ("and", "b", "b", ("some", "s", "c")),
                      ("and", "b", ("some", "s", "c"), ("some", "s", "all")), ("and", "b", "e"), "none"]:
            self.check(False, kept=[self.judged(other)])
            self.check(False, kept=[(other, follows_it)])
        self.check(False, lost=[lost[0], (("and", "all", ("some", "s", ("and", "c", "d"))), lost[1][1])])

    def test_concepts_that_are_not_weaker(self):
        lost, kept = self.found.lost, self.found.kept
        self.assertTrue(follows(changed(BOOK, 1, ("and", "b", "e")), "a", ("and", "b", "e")))
        self.check(False, kept=[self.judged(("and", "b", "e")), *kept])
        self.check(False, lost=[*lost[:1], self.judged("f"), *lost[1:]])

    def test_evidence_of_the_other_class(self):
        whole = reduced(BOOK[1][2])
        self.assertEqual(concepts_of(weaker(BOOK, 1, "b", "b")), [[], ["all"]])
        self.assertIs(Weaker([(whole, judge(changed(BOOK, 1, whole), "b", "b"))], []).shows(BOOK, 1, "b", "b"), False)
        self.check(False, lost=[], kept=[self.judged("all")])
        self.check(False, lost=[self.judged(whole)], kept=[])

    def test_evidence(self):
        lost, kept = self.found.lost, self.found.kept
        self.check(False, lost=[(lost[0][0], lost[1][1]), lost[1]])
        self.check(False, lost=[(lost[0][0], Fails(World([()], []), 0)), lost[1]])
        self.check(False, kept=[(kept[0][0], judge(changed(BOOK, 3, "e"), "a", ("and", "b", "e")))])
        self.check(False, kept=[(kept[0][0], Follows([]))])
        self.check(False, kept=[(kept[0][0], judge(BOOK, "a", "b"))])
        world = World([("a", "b"), ("d",)], [(0, "r", 1), (0, "s", 1)])
        self.check(True, lost=[(lost[0][0], Fails(world, 0)), lost[1]])
        self.check(False, lost=[(lost[0][0], Fails(world, 1)), lost[1]])

    def test_new_each_time(self):
        before = copy.deepcopy(self.found)
        self.found.lost.append(1)
        self.found.kept.clear()
        self.assertEqual(weaker(*self.question), before)
        self.assertNotEqual(self.found, before)
        self.assertEqual(Weaker((), ()), Weaker([], []))


class Refusals(unittest.TestCase):
    def test_in_order(self):
        book = [("passes", "r"), ("within", "a", ("and", "b", "c", "d", "e", "f", "g", "h")), ("within", "a", "none"),
                ("within", "a", ("some", "r", "none")), ("within", "a", "b")]
        for function in (weaker, Weaker([], []).shows):
            for bad in BAD_BOOKS:
                with self.assertRaises(BadBook):
                    function(bad, None, None, None)
            for bad in [None, True, False, -1, 5, 0, 2, 3, "1", (1,), 10 ** 20]:
                with self.assertRaises(BadIndex):
                    function(book, bad, None, None)
            for bad in BAD_CONCEPTS:
                with self.assertRaises(BadConcept):
                    function(book, 1, bad, "b")
                with self.assertRaises(BadConcept):
                    function(book, 1, "c", bad)
            with self.assertRaises(NotFollows):
                function(book, 1, "c", "b")
            with self.assertRaises(TooLarge):
                function(book, 1, "a", "b")
        self.assertEqual(concepts_of(weaker(book, 4, "a", "b")), [[], ["all"]])


if __name__ == "__main__":
    unittest.main()
