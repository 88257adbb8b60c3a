"""[9] Kinds."""

import unittest

from conceptworlds.concepts import is_concept, size, text, words_in
from conceptworlds.errors import BadBook, BadConcept, BadWords
from conceptworlds.following import follows
from conceptworlds.kinds import all_kinds, kind
from conceptworlds.toldworlds import terms
from tests.support import Chance, nested, small_concepts, somes
from tests.test_taking import BAD_WORDS


def in_texts(told):
    return [text(concept) for concept in told]


class Kinds(unittest.TestCase):
    def test_kinds(self):
        book = [("within", "a", ("some", "r", "b")), ("within", ("some", "r", "b"), "c"), ("within", "d", "none")]
        every = tuple(terms(book))
        self.assertEqual(kind(book, "a"), ("a", "all", "c", ("some", "r", "b")))
        self.assertEqual(kind(book, "all"), ("all",))
        self.assertEqual(kind(book, "d"), every)
        self.assertEqual(kind(book, ("some", "s", "none")), every)
        self.assertEqual(kind(book, ("some", "r", ("and", "b", "x"))), ("all", "c", ("some", "r", "b")))
        self.assertEqual(kind(book, "x"), ("all",))
        self.assertEqual(kind(book, "x", "x", "y"), ("all", "x"))
        self.assertEqual(kind(book, ("and", "b", "d"), "x"), tuple(terms(book, "x")))
        self.assertEqual(kind([("within", "all", "none")], "x"), ("all", "none"))
        self.assertEqual(kind((), ("and", "a", ("some", "r", "a")), ("some", "r", "all")), ("all", ("some", "r", "all")))

    def test_deep(self):
        self.assertEqual(kind([], somes(100), "a"), ("all",))
        self.assertEqual(kind([], nested(100), "a", "c"), ("a", "all"))
        self.assertEqual(len(kind([("passes", "r")], somes(100), somes(100))), 101)

    def test_by_chance(self):
        for seed in range(150):
            chance = Chance(seed)
            book, asked, concept = chance.book(), [chance.concept(2) for _ in range(seed % 3)], chance.concept(3)
            expected = tuple(term for term in terms(book, *asked) if follows(book, concept, term))
            self.assertEqual(kind(book, concept, *asked), expected)

    def test_refusals(self):
        for bad in [None, 1, True, "a", [None]]:
            with self.assertRaises(BadBook):
                kind(bad, None, None)
        for bad in [None, 1, True, "A", ("and", "a"), ["some", "r", "a"], somes(101)]:
            for concepts in [(bad,), ("a", bad), ("a", "a", bad), (bad, bad)]:
                with self.assertRaises(BadConcept):
                    kind([], *concepts)


class AllKinds(unittest.TestCase):
    def check(self, book, words):
        """The kinds as they are, and whether those of small concepts are there, with none smaller."""
        found = all_kinds(book, words)
        self.assertEqual([in_texts(told) for told, _ in found], sorted(in_texts(told) for told, _ in found))
        sizes = {told: size(concept) for told, concept in found}
        self.assertEqual(len(sizes), len(found))
        for told, concept in found[:30]:
            self.assertTrue(is_concept(concept))
            names, roles = words_in(concept)
            self.assertTrue(set(names) <= set(words[0]) and set(roles) <= set(words[1]))
            self.assertEqual(kind(book, concept, *words[0]), told)
        least = {}
        for concept in ["none", *small_concepts(words, 3)]:
            told = kind(book, concept, *words[0])
            least[told] = min(size(concept), least.get(told, 9))
        for told, count in least.items():
            self.assertEqual(sizes[told], count)
        for told, count in sizes.items():
            self.assertTrue(count > 3 or told in least)
        return found

    def test_told_words_without(self):
        self.assertEqual(all_kinds([], ((), ())), [(("all",), "all"), (("all", "none"), "none")])
        self.assertEqual(len(self.check([("within", "a", "b")], (("a", "b", "c"), ()))), 7)
        self.assertEqual(len(self.check([("within", somes(2, "all"), "a")], ((), ("r",)))), 4)
        self.assertEqual(len(self.check([("within", "a", ("some", "r", "b"))], (("c",), ("s",)))), 3)

    def test_no_world(self):
        found = all_kinds([("within", "all", "none")], (("a",), ("r",)))
        self.assertEqual([told for told, _ in found], [("a", "all", "none")])
        self.assertEqual(size(found[0][1]), 0)

    def test_least_sizes(self):
        book = [("within", ("and", "a", "b"), "c"), ("within", ("some", "r", ("some", "r", "a")), "d")]
        found = dict(self.check(book, (("a", "b", "c"), ("r",))))
        self.assertEqual(size(found[kind(book, ("and", "a", "b"), "a", "b", "c")]), 2)
        self.assertEqual(found[kind(book, somes(2), "a", "b", "c")], somes(2))

    def test_names_against_roles(self):
        three = somes(3, "all")
        book = [("within", ("and", "a", "b"), "c"), ("within", three, "c"), ("within", "c", ("and", "a", "b")),
                ("within", "c", three)]
        found = dict(self.check(book, (("a", "b"), ("r",))))
        self.assertEqual(size(found[kind(book, three, "a", "b")]), 2)
        book = [("within", "c", somes(1, "all")), ("within", somes(1, "all"), "c"), ("within", "c", ("and", "a", "b")),
                ("within", ("and", "a", "b"), "c")]
        found = dict(self.check(book, (("a", "b"), ("r",))))
        self.assertEqual(found[kind(book, "c", "a", "b")], somes(1, "all"))
        names = "a", "b", "d"
        book = [("within", "c", somes(2, "all")), ("within", somes(2, "all"), "c"), ("within", "c", ("and", *names)),
                ("within", ("and", *names), "c")]
        found = dict(self.check(book, (names, ("r",))))
        self.assertEqual(found[kind(book, "c", *names)], somes(2, "all"))
        book = [("within", somes(1, "a"), ("and", "b", "c")), ("within", ("and", "b", "c"), somes(1, "a")),
                ("within", somes(2, "all"), "d")]
        self.check(book, (("a", "b", "c"), ("r",)))

    def test_passing_roles(self):
        book = [("within", ("some", "s", "a"), "b"), ("passes", "r"), ("below", "r", "s"), ("itself", "t"), ("below", "t", "s")]
        self.check(book, (("a",), ("r", "s")))
        self.check(book, (("a", "b"), ("r", "t")))

    def test_by_chance(self):
        for seed in range(60):
            chance = Chance(seed)
            self.check(chance.book(4), (chance.some_of(("a", "b")), chance.some_of(("r", "s"))))

    def test_many_names(self):
        names = tuple("abcdefgh")
        self.assertEqual(len(all_kinds([], (names, ("r",)))), 257)
        chain = [("within", one, other) for one, other in zip(names, names[1:])]
        self.assertEqual(len(all_kinds(chain, (names, ("r",)))), 10)

    def test_refusals(self):
        for bad in [None, 1, True, "a", [None]]:
            with self.assertRaises(BadBook):
                all_kinds(bad, None)
        for bad in BAD_WORDS:
            with self.assertRaises(BadWords):
                all_kinds([], bad)


if __name__ == "__main__":
    unittest.main()
