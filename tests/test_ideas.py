"""[25] Ideas."""

import unittest

from conceptworlds.concepts import is_concept, parts, size, text
from conceptworlds.errors import BadConcept, BadText, BadWords, TooLarge
from conceptworlds.ideas import Idea
from conceptworlds.plain import plainly_within
from conceptworlds.reduced import plain_common, reduced
from tests.support import Chance, nested, somes
from tests.test_plain import BAD_CONCEPTS, WITH_NONE


class Ideas(unittest.TestCase):
    def test_given_and_form(self):
        told = ("and", "b", ("some", "r", "all"), ("some", "r", "a"), "b")
        idea = Idea(told)
        self.assertEqual((idea.given, idea.form), (told, ("and", "b", ("some", "r", "a"))))
        self.assertEqual((len(idea), list(idea), str(idea), idea.weight()), (2, ["b", ("some", "r", "a")], "b & some r a", 3))
        self.assertIs(bool(idea), True)

    def test_all_and_none(self):
        for told in ("all", ("and", "all", "all")):
            idea = Idea(told)
            self.assertEqual((list(idea), len(idea), str(idea), idea.weight(), bool(idea), idea.form), ([], 0, "all", 0, True, "all"))
        for told in WITH_NONE:
            idea = Idea(told)
            self.assertEqual((list(idea), len(idea), str(idea), idea.weight(), bool(idea), idea.form, idea.given), (["none"], 1, "none", 0, False, "none", told))
            self.assertEqual(idea, Idea("none"))
            self.assertTrue(idea.inside(Idea("a")) and idea.inside(Idea("none")) and not Idea("a").inside(idea))
            self.assertTrue(idea.covers("none") and idea.covers(somes(3, "none")) and not idea.covers("a") and Idea("a").covers(told))
        self.assertEqual(list(Idea("a")), ["a"])
        self.assertEqual(list(Idea(somes(2))), [somes(2)])

    def test_equal(self):
        self.assertEqual(Idea(("and", "a", "b")), Idea(("and", "b", ("and", "a", "all"))))
        self.assertTrue(Idea("a") != Idea("b"))
        self.assertFalse(Idea("a") != Idea(("and", "a", "a")))
        self.assertNotEqual(Idea("a").given, Idea(("and", "a", "a")).given)
        self.assertIs(Idea(("some", "r", ("and", "a", "b"))) == Idea(("and", ("some", "r", "a"), ("some", "r", "b"))), False)

    def test_by_chance(self):
        for seed in range(300):
            chance = Chance(seed)
            told, more = chance.concept(3, seed % 4 == 0), chance.concept(2, seed % 5 == 0)
            one, other = Idea(told), Idea(more)
            self.assertEqual(one.form, reduced(told))
            self.assertIs(one == other, reduced(told) == reduced(more))
            self.assertIs(one != other, reduced(told) != reduced(more))
            self.assertIs(one.inside(other), plainly_within(told, more))
            self.assertIs(other.inside(one), plainly_within(more, told))
            self.assertIs(one.covers(more), plainly_within(more, told))
            self.assertIs(bool(one), "none" not in parts(told))
            self.assertEqual((str(one), one.weight()), (text(one.form), size(one.form)))
            self.assertEqual(len(list(one)), len(one))
            self.assertEqual(one, Idea(("and", "all", "all", *one)))
            self.assertEqual([one.also(other).given, one.some("q").given], [("and", told, more), ("some", "q", told)])
            self.assertEqual(one.common(other).form, plain_common(told, more))
            self.assertEqual(one.common(other), other.common(one))
            self.assertEqual(Idea.parsed(text(told)).given, told)

    def test_deep(self):
        for made in (nested, somes):
            deep, less = Idea(made(100)), Idea(made(99))
            for call in (lambda: deep.also(Idea("a")), lambda: Idea("a").also(deep), lambda: deep.some("r"), lambda: less.some("r").some("r"), lambda: less.also(less).also(less)):
                with self.assertRaises(BadConcept):
                    call()
            self.assertEqual(less.some("r").given, ("some", "r", made(99)))
            self.assertEqual(Idea("b").also(less).given, ("and", "b", made(99)))
            self.assertEqual(deep.common(deep), deep)
            self.assertEqual(deep.common(less).form, plain_common(made(100), made(99)))

    def test_common_that_is_too_deep(self):
        # each of both has branches where the other one has none, so what they have in common has all of them
        rows = [("and", *["x" + one + other for other in "abc"]) for one in "abc"]
        others = [("and", *["x" + one + other for one in "abc"]) for other in "abc"]

        def branched(first, second, third, high, low):
            return somes(high, ("and", somes(1, ("and", somes(low, first), somes(low, second))), somes(low + 1, third)))

        for less, right in [(0, False), (1, True)]:
            one, other = branched(*rows, 90 - less, 6), branched(*others, 92 - less, 4)
            self.assertTrue(is_concept(one) and is_concept(other))
            self.assertIs(is_concept(plain_common(one, other)), right)
            if right:
                self.assertEqual(Idea(one).common(Idea(other)).given, plain_common(one, other))
            else:
                with self.assertRaises(BadConcept):
                    Idea(one).common(Idea(other))

    def test_refusals(self):
        for bad in BAD_CONCEPTS:
            with self.assertRaises(BadConcept):
                Idea(bad)
            with self.assertRaises(BadConcept):
                Idea("none").covers(bad)
        for bad in [None, 1, "", "a &", "(a)", "all all", ("and", "a", "b"), b"a", "some r", "A"]:
            with self.assertRaises(BadText):
                Idea.parsed(bad)
        for bad in [None, 1, True, "all", "none", "some", "", "R", "abcdefghijklm", ("r",)]:
            with self.assertRaises(BadWords):
                Idea("a").some(bad)
            with self.assertRaises(BadWords):
                Idea(somes(100)).some(bad)
        wide = ("and", *[("some", "r", ("and", *[("some", "r", "x" + one) for one in "abcdefg"], "y" + other)) for other in "abcdefg"])
        with self.assertRaises(TooLarge):
            Idea(wide).common(Idea(wide))

    def test_new_each_time(self):
        idea = Idea(("and", "a", "b"))
        found = list(idea)
        found.append("c")
        self.assertEqual(list(idea), ["a", "b"])
        self.assertEqual([list(idea), list(idea)], [["a", "b"], ["a", "b"]])
        for call in (lambda: idea.covers("A"), lambda: idea.some("A")):
            with self.assertRaises((BadConcept, BadWords)):
                call()
        self.assertEqual((idea.given, str(idea)), (("and", "a", "b"), "a & b"))


if __name__ == "__main__":
    unittest.main()
