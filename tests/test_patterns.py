"""[31] Patterns."""

import itertools
import unittest

from conceptworlds.concepts import text, words_in
from conceptworlds.errors import BadConcept, BadWords, TooLarge
from conceptworlds.patterns import fillings, fills
from conceptworlds.plain import plainly_within, tree
from conceptworlds.reduced import reduced
from tests.support import Chance, nested, rename, small_concepts, somes
from tests.test_plain import BAD_CONCEPTS, WITH_NONE


def filled(pattern, hole, concept):
    if isinstance(pattern, str):
        return concept if pattern == hole else pattern
    if pattern[0] == "some":
        return "some", pattern[1], filled(pattern[2], hole, concept)
    return ("and", *[filled(part, hole, concept) for part in pattern[1:]])


def slow_choices(pattern, hole, goal):
    """The set of the choices, by the words of the document."""
    nodes, others = tree(pattern), tree(goal)
    holes = [at for at, node in enumerate(nodes) if hole in node[2]]
    found = set()

    def place(images):
        if len(images) == len(nodes):
            found.add(tuple(images[at] for at in holes))
            return
        parent, role, names = nodes[len(images)]
        for image, (above, by, row) in enumerate(others):
            if (above, by) == (None if parent is None else images[parent], role) and set(names) - {hole} <= set(row):
                place([*images, image])

    place([])
    return found


class Fillings(unittest.TestCase):
    def test_ordinary(self):
        self.assertEqual(fillings(("and", "a", ("some", "r", "x")), "x", ("and", "a", ("some", "r", ("and", "c", "b")))), [("and", "b", "c")])
        self.assertEqual(fillings("x", "x", ("and", "b", "all", "a")), [("and", "a", "b")])
        self.assertEqual(fillings(("and", "x", "a"), "x", "a"), ["a"])
        self.assertEqual(fillings(("and", "x", ("some", "r", "x")), "x", ("and", "a", "b", ("some", "r", "a"))), [])
        self.assertEqual(fillings(("and", ("some", "s", "x"), ("some", "r", "x")), "x", ("and", somes(1, ("and", "a", "b")), ("some", "s", ("and", "b", "c")))), [])
        self.assertEqual(fillings(("and", somes(1, ("and", "x", "a")), ("some", "s", ("and", "c", "x"))), "x", ("and", somes(1, ("and", "a", "b")), ("some", "s", ("and", "b", "c")))), ["b"])

    def test_several_depths(self):
        goal = ("and", "a", somes(1, ("and", "a", "b")), somes(2, "a"))
        self.assertEqual(fillings(("and", "x", somes(1, ("and", "x", "b")), somes(2, "x")), "x", goal), ["a"])
        self.assertEqual(fillings(("and", "x", somes(1, "x")), "x", ("and", somes(1), somes(2))), [somes(1)])
        self.assertEqual(fillings(somes(1, "x"), "x", somes(3, "a")), [somes(2, "a")])

    def test_no_filling(self):
        for pattern, goal in [(("and", "a", "x"), "b"), (somes(1, "x"), "all"), (somes(1, "x"), ("some", "s", "a")), (("and", "x", somes(1, "x")), "all"),
                              (somes(1, "x"), ("and", somes(1, "a"), somes(1, "b"))), (("and", "x", somes(1, "a")), somes(1, "all")), (somes(2, "x"), somes(1, "a"))]:
            self.assertEqual(fillings(pattern, "x", goal), [])

    def test_several_least_fillings(self):
        pattern = "and", ("some", "r", ("and", "a", "x")), ("some", "r", ("and", "b", "x")), ("some", "r", ("and", "a", "b", "c", "d"))
        self.assertEqual(fillings(pattern, "x", somes(1, ("and", "a", "b", "c", "d"))), [("and", "a", "b", "c", "d")])
        one, other = somes(1, ("and", "a", "b")), somes(1, ("and", "a", "c"))
        goal = ("and", one, other)
        self.assertEqual(fillings(("and", ("some", "r", "x"), one, other), "x", goal), [("and", "a", "b"), ("and", "a", "c")])
        self.assertEqual(fillings(("and", ("some", "r", "x"), ("some", "r", "x"), one, other), "x", goal), [("and", "a", "b"), ("and", "a", "c")])
        self.assertEqual(fillings(("and", ("some", "r", ("and", "x", "b")), ("some", "r", ("and", "x", "c"))), "x", goal), ["a"])

    def test_all_and_repeats(self):
        self.assertEqual(fillings(("and", "x", "a", ("some", "r", ("and", "x", "b"))), "x", ("and", "a", somes(1, "b"))), ["all"])
        self.assertEqual(fillings(("and", "x", "x", ("and", "x", "all")), "x", "all"), ["all"])
        self.assertEqual(fillings(("and", somes(1, "x"), somes(1, "x")), "x", ("and", somes(1, "a"), somes(1, ("and", "a", "b")))), [("and", "a", "b")])

    def test_hole_that_is_a_role_too(self):
        self.assertEqual(fillings(("some", "x", ("and", "x", "a")), "x", ("some", "x", ("and", "a", ("some", "x", "b")))), [("and", "a", ("some", "x", "b"))])
        self.assertEqual(fillings(("and", "x", ("some", "x", "a")), "x", ("some", "x", "a")), [("some", "x", "a")])
        self.assertTrue(fills(("some", "x", "x"), "x", ("some", "x", "a"), "a"))
        self.assertFalse(fills(("some", "x", "x"), "x", ("some", "a", "a"), "a"))
        self.assertFalse(fills("x", "x", "a", "x"))

    def test_by_chance(self):
        found, small = {}, small_concepts((("a", "b"), ("r", "s")), 4)
        for seed in range(500):
            chance = Chance(seed)
            pattern = Chance(seed, names=("a", "b", "x", "x")).concept(3, False)
            if "x" not in words_in(pattern)[0]:
                continue
            goal = filled(pattern, "x", chance.concept(2, False)) if seed % 4 else chance.concept(3, False)
            told = fillings(pattern, "x", goal)
            found[len(told)] = found.get(len(told), 0) + 1
            self.assertTrue(told or seed % 4 == 0)
            self.assertEqual([text(one) for one in told], sorted({text(one) for one in told}))
            for one in told:
                self.assertEqual(reduced(one), one)
                self.assertEqual(reduced(filled(pattern, "x", one)), reduced(goal))
                self.assertTrue(fills(pattern, "x", goal, one))
            for one, other in itertools.permutations(told, 2):
                self.assertFalse(plainly_within(one, other))
            for one in small[:: 1 if seed % 20 == 0 else 40]:
                right = reduced(filled(pattern, "x", one)) == reduced(goal)
                self.assertIs(fills(pattern, "x", goal, one), right)
                self.assertTrue(not right or any(plainly_within(least, one) for least in told))
            others = {"a": "z", "b": "s", "r": "y", "s": "b", "x": "p"}
            other = fillings(rename(pattern, others), "p", rename(goal, others))
            self.assertEqual(sorted(text(one) for one in other), sorted(text(reduced(rename(one, others))) for one in told))
        self.assertTrue(found[0] > 10 and found[1] > 200)

    def test_many_choices(self):
        def goal(many, *more):
            return ("and", *[("some", "r", "y" + chr(97 + at)) for at in range(many)], *more)

        twice = ("and", ("some", "r", "x"), ("some", "r", "x"))
        for many, more in [(22, ()), (10, ()), (5, (("some", "s", "a"),))]:
            self.assertEqual(len(slow_choices(twice, "x", goal(many, *more))), many * many)
            self.assertEqual(fillings(twice, "x", goal(many, *more)), [])
            self.assertEqual(len(fillings(("and", *twice[1:], goal(many, *more)), "x", goal(many, *more))), many)
        with self.assertRaises(TooLarge):
            fillings(twice, "x", goal(23))
        self.assertFalse(fills(twice, "x", goal(23), "a"))
        once = ("and", ("some", "r", "x"), ("some", "r", "a"))
        self.assertEqual(fillings(once, "x", goal(23, ("some", "r", "a"))), [])
        # a hole that has no image leaves no choice
        self.assertEqual(fillings(("and", *twice[1:], ("some", "q", "x")), "x", goal(23)), [])
        five = ("and", *[("some", "r", "y" + chr(97 + at)) for at in range(5)])
        wide = ("and", ("some", "s", five), *[("some", "t", "z" + chr(97 + at)) for at in range(4)])
        pattern = ("and", ("some", "s", ("and", *[("some", "r", "x")] * 3)), ("some", "t", "x"))
        self.assertEqual(len(slow_choices(pattern, "x", wide)), 500)
        self.assertEqual(fillings(pattern, "x", wide), [])
        with self.assertRaises(TooLarge):
            fillings(("and", pattern, ("some", "t", "x")), "x", wide)
        with self.assertRaises(TooLarge):
            fillings(("and", *[("some", "r", "x")] * 60), "x", goal(12))

    def test_one_choice_too_many(self):
        names = ["y" + one + other for one in "abcdefghijklm" for other in "abcdefghijklm"]
        goal = ("and", *[("some", "r", name) for name in names[:3]], *[("some", "s", name) for name in names[:167]])
        pattern = ("and", ("some", "r", "x"), ("some", "s", "x"))
        with self.assertRaises(TooLarge):
            fillings(pattern, "x", goal)
        self.assertEqual(fillings(pattern, "x", goal[:-1]), [])

    def test_images_must_have_the_names(self):
        goal = ("and", "z", *[("some", "r", "y" + chr(97 + at)) for at in range(23)])
        twice = [("some", "r", "x"), ("some", "r", "x")]
        self.assertEqual(fillings(("and", "q", *twice), "x", goal), [])
        self.assertEqual(fillings(("and", "z", *[("some", "r", ("and", "x", "ya"))] * 2), "x", goal), [])
        self.assertEqual(fillings(("and", "z", *[("some", "r", ("and", "x", "ya"))] * 2, *goal[3:]), "x", goal), ["ya"])
        with self.assertRaises(TooLarge):
            fillings(("and", "z", *twice), "x", goal)

    def test_choices_that_are_the_same(self):
        # images of nodes without holes make no more choices
        goal = ("and", *[("some", "r", "y" + chr(97 + at)) for at in range(20)])
        pattern = ("and", ("some", "r", "x"), *[("some", "r", "all")] * 40)
        self.assertEqual(len(slow_choices(("and", *pattern[1:4]), "x", goal)), 20)
        self.assertEqual(fillings(pattern, "x", goal), [])

    def test_deep(self):
        self.assertEqual(fillings(somes(100, "x"), "x", somes(100, "a")), ["a"])
        self.assertEqual(fillings(nested(100, "x"), "x", "b"), ["b"])
        self.assertTrue(fills(somes(100, "x"), "x", somes(100), "a"))
        self.assertFalse(fills(somes(100, "x"), "x", somes(100), somes(100)))
        self.assertEqual(fillings(("and", *[somes(99, one) for one in "abx"]), "x", ("and", *[somes(99, one) for one in "abc"])), ["c"])

    def test_new_each_time(self):
        found = fillings("x", "x", "a")
        found.append("b")
        self.assertEqual(fillings("x", "x", "a"), ["a"])


class Refusals(unittest.TestCase):
    def test_in_order(self):
        for function in (fillings, lambda *question: fills(*question, None)):
            for bad in [None, 1, True, "all", "none", "some", "", "X", "abcdefghijklm", ("x",), b"x"]:
                with self.assertRaises(BadWords):
                    function(None, bad, None)
            for bad in [*BAD_CONCEPTS, *WITH_NONE, "a", "all", ("some", "x", "a"), ("and", "x", "none"), ("and", "xx", "a")]:
                with self.assertRaises(BadConcept):
                    function(bad, "x", "a")
            for bad in [*BAD_CONCEPTS, *WITH_NONE, "x", ("some", "r", ("and", "a", "x")), ("and", "a", ("some", "x", "x"))]:
                with self.assertRaises(BadConcept):
                    function("x", "x", bad)
        for bad in BAD_CONCEPTS:
            with self.assertRaises(BadConcept):
                fills("x", "x", "a", bad)
        for bad in WITH_NONE:
            self.assertIs(fills("x", "x", "a", bad), False)


if __name__ == "__main__":
    unittest.main()
