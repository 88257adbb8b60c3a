"""[2] The texts of concepts, read back."""

import unittest

from conceptworlds.concepts import text, text_of
from conceptworlds.errors import BadText
from conceptworlds.reading import read
from tests.support import Chance, nested, somes


def between_two(depth):
    """A concept in which ands and somes take turns, nested so many levels deep."""
    concept = "a"
    for level in range(depth):
        concept = ("some", "r", concept) if level % 2 else ("and", concept, "b")
    return concept


class Reading(unittest.TestCase):
    def test_all_kinds_of_concepts(self):
        for told, concept in [("bird & some eats (worm & all)", ("and", "bird", ("some", "eats", ("and", "worm", "all")))),
                              ("some eats some has leaf", somes(1, somes(1, "leaf", "has"), "eats")), ("all", "all"), ("none", "none"), ("a", "a"),
                              ("a & b & c", ("and", "a", "b", "c")), ("(a & b) & c", ("and", ("and", "a", "b"), "c")),
                              ("a & (b & c)", ("and", "a", ("and", "b", "c"))), ("a & a", ("and", "a", "a")), ("some r all & none", ("and", somes(1, "all"), "none")),
                              ("some r (a & b) & some s (some r a & b)", ("and", somes(1, ("and", "a", "b")), ("some", "s", ("and", somes(1), "b")))),
                              ("((a & b) & (c & d)) & e", ("and", ("and", ("and", "a", "b"), ("and", "c", "d")), "e")), ("and", "and"), ("within & some some", None),
                              ("alla & nonea & somea", ("and", "alla", "nonea", "somea")), ("some and and", ("some", "and", "and"))]:
            if concept is not None:
                self.assertEqual(read(told), concept)
                self.assertEqual(text(concept), told)
        for seed in range(500):
            concept = Chance(seed, names=("a", "bc", "r"), roles=("r", "all"[1:])).concept(5)
            self.assertEqual(read(text(concept)), concept)

    def test_spaces_and_parentheses(self):
        for told in ["", " ", "a ", " a", "a  & b", "a &  b", "a&b", "a &b", "a& b", "a & ", " & a", "&", "a & & b", "a b", "a,b", "a && b", "a & b &",
                     "(a)", "((a & b))", "(a & b)", "(a & b", "a & b)", "a & (b)", "a & ((b & c))", "some r (a)", "some r (some s a)", "(some r a)",
                     "some r (a & b", "some r a & b)", "some r(a & b)", "some r ( a & b)", "some r (a & b )", "()", "(", ")", "a & ()", "some", "some ",
                     "some r", "some r ", "some  r a", "some r  a", "some r a b", "somer a", "some r & a", "some (r) a", "some r a &", "a\n", "\ta", "a & b\n",
                     "[a & b]", "A", "a & B", "some R a", "a1", "a_b", "a-b", "\u00e4", "\u0430", "a.b", "'a'", "all all", "some r some", "some some a", "some some some a"]:
            with self.assertRaises(BadText, msg=told):
                read(told)

    def test_words(self):
        twelve, thirteen = "abcdefghijkl", "abcdefghijklm"
        self.assertEqual(read(twelve), twelve)
        self.assertEqual(read(f"some {twelve} {twelve}"), ("some", twelve, twelve))
        for told in [thirteen, f"some {thirteen} a", f"some r {thirteen}", f"a & {thirteen}", "some all a", "some none a", "some some a", "a & some"]:
            with self.assertRaises(BadText):
                read(told)

    def test_each_sign_more_or_less(self):
        told = "bird & some eats (worm & some has (leaf & all) & none)"
        for at in range(len(told) + 1):
            others = {told[:at] + told[at + 1:], told[:at] + told[at:at + 1] * 2 + told[at + 1:], told[:at] + told[at:at + 2][::-1] + told[at + 2:]}
            others |= {told[:at] + sign + told[at:] for sign in " ()&ab"}
            for other in others - {told}:
                try:
                    found = read(other)
                except BadText:
                    continue
                self.assertEqual(text(found), other)

    def test_deep(self):
        for made in (nested, somes, between_two):
            self.assertEqual(read(text_of(made(100))), made(100))
            with self.assertRaises(BadText):
                read(text_of(made(101)))
        for told in ["(" * 5000, "some r " * 5000 + "a", "(" * 300 + "a & b" + ")" * 300, "a & " * 5000]:
            with self.assertRaises(BadText):
                read(told)
        self.assertEqual(len(read(" & ".join(["a"] * 5000))), 5001)

    def test_no_strings(self):
        for bad in [None, True, 1, b"a", ("and", "a", "b"), ["a"], {}, object(), ("some", "r", "a"), 10 ** 30]:
            with self.assertRaises(BadText):
                read(bad)


if __name__ == "__main__":
    unittest.main()
