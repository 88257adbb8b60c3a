"""[2] Words and concepts."""

import unittest

from conceptworlds.concepts import depth, is_concept, is_word, parts, size, text, words_in
from conceptworlds.errors import BadConcept
from tests.support import Chance, nested, somes

NO_CONCEPTS = [
    None, 0, 1, True, False, b"a", [], {}, (), ("a",), ("and",), ("and", "a"), ("some",), ("some", "r"),
    ("some", "r", "a", "b"), ["and", "a", "b"], ["some", "r", "a"], ("and", "a", ["some", "r", "a"]), "", "A", "aB",
    "a b", "a1", "a_", "a\n", "abcdefghijklm", "\u00e4", "some", ("or", "a", "b"), ("some", "all", "a"),
    ("some", "none", "a"), ("some", "some", "a"), ("some", "R", "a"), ("some", ("some", "r", "a"), "a"),
    ("some", "r", "some"), ("and", "a", "some"), ("and", "a", None), ("some", 1, "a"), ("some", "r", 1),
    ("some", "r", True), ("within", "a", "b"), (("and", "a", "b"),), ([], "a", "b"), (1, "a", "b"), object(),
    ("some", "abcdefghijklm", "a"), nested(101), somes(101), ("and", somes(100), "a"), ("some", "r", nested(100)),
    ("and", "a", somes(100)),
]


class Words(unittest.TestCase):
    def test_words(self):
        for word in ["a", "z", "bird", "abcdefghijkl", "and", "within", "alls", "non", "somes"]:
            self.assertIs(is_word(word), True, word)

    def test_no_words(self):
        for thing in ["", "abcdefghijklm", "all", "none", "some", "A", "a1", "a ", " a", "a-b", "a\n", "\u00e9", "\u03b1",
                      "\uff41", None, 1, True, b"a", ("a",), ["a"], {"a": 1}, object()]:
            self.assertIs(is_word(thing), False, repr(thing))


class Concepts(unittest.TestCase):
    def test_concepts(self):
        for concept in ["all", "none", "a", "and", "abcdefghijkl", ("and", "a", "a"), ("and", "and", "and"),
                        ("and", "a", "b", "c", "d"), ("some", "r", "all"), ("some", "and", "and"), ("some", "a", "a"),
                        ("and", ("and", "a", "b"), ("some", "r", "none")), nested(100), somes(100),
                        ("some", "r", nested(99)), ("and", *["a"] * 500)]:
            self.assertIs(is_concept(concept), True, repr(concept)[:60])

    def test_no_concepts(self):
        for thing in NO_CONCEPTS:
            self.assertIs(is_concept(thing), False, repr(thing)[:60])

    def test_refusals(self):
        for thing in NO_CONCEPTS:
            for function in (parts, size, depth, text, words_in):
                with self.assertRaises(BadConcept):
                    function(thing)
            with self.assertRaises(BadConcept):
                words_in("a", thing)

    def test_texts(self):
        for concept, told in [
                ("all", "all"), ("none", "none"), ("a", "a"), (("and", "and", "b"), "and & b"),
                (("some", "eats", ("some", "has", "leaf")), "some eats some has leaf"),
                (("and", "bird", ("some", "eats", ("and", "worm", "all"))), "bird & some eats (worm & all)"),
                (("and", ("and", "a", "b"), ("and", "a", "b", "c")), "(a & b) & (a & b & c)"),
                (("and", ("some", "r", "a"), "b"), "some r a & b"), (("and", "a", "a"), "a & a"),
                (("some", "r", ("and", ("and", "a", "b"), "c")), "some r ((a & b) & c)")]:
            self.assertEqual(text(concept), told)

    def test_different_concepts_have_different_texts(self):
        chance, found = Chance(1), {}
        for _ in range(3000):
            concept = chance.concept(4)
            self.assertEqual(found.setdefault(text(concept), concept), concept)

    def test_sizes(self):
        for concept, count in [("all", 0), ("none", 0), ("a", 1), (("some", "r", "none"), 1), (("and", "a", "a"), 2),
                               (("and", "all", "none"), 0), (("some", "r", ("and", "a", ("some", "r", "a"))), 4),
                               (nested(100), 101), (somes(100), 101)]:
            self.assertEqual(size(concept), count)

    def test_depths(self):
        for concept, count in [("all", 0), ("a", 0), (nested(100), 0), (somes(100), 100), (("some", "r", "none"), 1),
                               (("and", ("some", "r", "a"), ("some", "r", ("some", "s", "a")), "b"), 2),
                               (("some", "r", ("and", "a", ("some", "r", "a"))), 2)]:
            self.assertEqual(depth(concept), count)

    def test_parts(self):
        inside = ("and", "b", "a", "b")
        concept = ("and", ("some", "r", inside), "b", ("and", "a", "none"))
        self.assertEqual(parts(concept), ["a", ("and", "a", "none"), "b", inside, "none", ("some", "r", inside), concept])
        self.assertEqual(parts("all"), ["all"])
        self.assertEqual(parts(("and", "a", "a")), ["a", ("and", "a", "a")])
        self.assertEqual(len(parts(somes(100))), 101)
        for seed in range(50):
            found = parts(Chance(seed).concept(4))
            self.assertEqual(found, sorted(found, key=text))
            self.assertEqual(len(set(found)), len(found))

    def test_words_in(self):
        self.assertEqual(words_in(), ((), ()))
        self.assertEqual(words_in("all", "none"), ((), ()))
        self.assertEqual(words_in("b", ("some", "a", ("and", "c", "a", "b"))), (("a", "b", "c"), ("a",)))
        self.assertEqual(words_in(("some", "s", "all"), ("some", "r", "none")), ((), ("r", "s")))

    def test_lists_are_new(self):
        found = parts(("and", "a", "b"))
        found.clear()
        self.assertEqual(len(parts(("and", "a", "b"))), 3)


if __name__ == "__main__":
    unittest.main()
