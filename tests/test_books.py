"""[4] Rules and books, roles under roles, and worlds that keep books."""

import unittest

from conceptworlds.books import broken_rules, closed, is_book, is_rule, under, words_of
from conceptworlds.errors import BadBook, BadWords, BadWorld
from conceptworlds.worlds import World
from tests.support import Chance, chain, nested, slow_closing, slow_keeps, somes

NO_RULES = [
    None, 1, True, "within", (), [], {}, ("within",), ("within", "a"), ("within", "a", "b", "c"), ["within", "a", "b"],
    ("within", "a", "B"), ("within", "some", "a"), ("within", None, "a"), ("within", "a", ("and", "a")),
    ("within", "a", ["some", "r", "a"]), ("within", "a", somes(101)), ("within", nested(101), "a"), ("below", "r"),
    ("below", "r", "s", "t"), ("below", "r", "all"), ("below", "none", "r"), ("below", "r", ("some", "r", "a")),
    ("below", 1, "r"), ("below", "r", True), ("below", ["r"], "s"), ("passes",), ("passes", "r", "s"),
    ("passes", "some"), ("passes", None), ["passes", "r"], ("itself",), ("itself", "r", "r"), ("itself", "R"),
    ("itself", 0), ("itself", False), ("beyond", "r"), ("and", "a", "b"), ("some", "r", "a"), (1, "a", "b"),
    ([], "a", "b"), (("within", "a", "b"),), ("Within", "a", "b"), object(), ("passes", "abcdefghijklm"),
]
RULES = [("within", "a", "b"), ("within", "none", "all"), ("within", somes(100), nested(100)), ("below", "r", "s"),
         ("below", "r", "r"), ("passes", "r"), ("itself", "r"), ("itself", "and"), ("below", "within", "passes")]


class Rules(unittest.TestCase):
    def test_rules(self):
        for rule in RULES:
            self.assertIs(is_rule(rule), True, repr(rule)[:60])
        for thing in NO_RULES:
            self.assertIs(is_rule(thing), False, repr(thing)[:60])

    def test_books(self):
        for book in ([], (), RULES, tuple(RULES), RULES + RULES):
            self.assertIs(is_book(book), True)
        for thing in [None, 1, True, "", "book", {}, {("passes", "r"): 1}, set(), ("passes", "r"), ("within", "a", "b")]:
            self.assertIs(is_book(thing), False, repr(thing))
        for thing in NO_RULES:
            self.assertIs(is_book([thing]), False)
            self.assertIs(is_book((*RULES, thing)), False)

    def test_index(self):
        world, calls = World([()], []), [words_of, lambda book: under(book, "r", "s"), lambda book: closed(book, world),
                                         lambda book: broken_rules(book, world)]
        for call in calls:
            for thing in [None, 1, True, "", "passes", {}, set()]:
                with self.assertRaises(BadBook) as caught:
                    call(thing)
                self.assertIsNone(caught.exception.index)
            for thing in NO_RULES:
                for book, index in [([thing], 0), ((*RULES, thing), 9), ([("passes", "r"), thing, None, thing], 1)]:
                    with self.assertRaises(BadBook) as caught:
                        call(book)
                    self.assertEqual(caught.exception.index, index)
            with self.assertRaises(BadBook) as caught:
                call(("passes", "r"))
            self.assertEqual(caught.exception.index, 0)

    def test_words_of(self):
        self.assertEqual(words_of([]), ((), ()))
        self.assertEqual(words_of([("within", "none", "all")]), ((), ()))
        book = [("within", ("some", "s", "b"), ("and", "a", "r")), ("below", "r", "t"), ("passes", "u"), ("itself", "a")]
        self.assertEqual(words_of(book), (("a", "b", "r"), ("a", "r", "s", "t", "u")))
        self.assertEqual(words_of(tuple(book)), words_of(book + book))


class Under(unittest.TestCase):
    def test_under(self):
        book = [("below", "r", "s"), ("below", "s", "t"), ("below", "t", "s"), ("within", "r", "u"), ("passes", "s")]
        for role, other, told in [("r", "r", True), ("r", "s", True), ("r", "t", True), ("s", "r", False),
                                  ("t", "s", True), ("s", "t", True), ("x", "x", True), ("r", "u", False)]:
            self.assertIs(under(book, role, other), told)
        ladder = [("below", "x" + chr(97 + at), "x" + chr(98 + at)) for at in range(25)]
        self.assertTrue(under(ladder, "xa", "xz"))
        self.assertFalse(under(ladder, "xz", "xa"))

    def test_refusals(self):
        for bad in [None, 1, True, "", "all", "R", ("r",), ["r"], "abcdefghijklm"]:
            for roles in [(bad, "r"), ("r", bad), (bad, bad)]:
                with self.assertRaises(BadWords):
                    under([], *roles)
                with self.assertRaises(BadBook):
                    under([None], *roles)


class Keeping(unittest.TestCase):
    def test_broken_rules(self):
        world = World([("a",), ("a", "b"), ()], [(0, "r", 1), (0, "s", 1), (1, "r", 2)])
        book = [("within", "b", "a"), ("within", "a", "b"), ("below", "s", "r"), ("below", "r", "s"), ("passes", "s"),
                ("passes", "r"), ("itself", "r"), ("within", "none", "all"), ("within", "all", "none"), ("passes", "t"),
                ("itself", "t"), ("below", "t", "r"), ("within", ("some", "r", "b"), ("and", "a", ("some", "s", "b")))]
        self.assertEqual(broken_rules(book, world), [1, 3, 5, 6, 8, 10])
        self.assertEqual(broken_rules(tuple(book), world), broken_rules(book, world))
        self.assertEqual(broken_rules([], world), [])

    def test_closed(self):
        book = [("below", "r", "s"), ("passes", "s"), ("itself", "t"), ("below", "t", "u")]
        found = closed(book, World([("a",), (), ()], [(0, "r", 1), (1, "s", 2)]))
        loops = [(x, role, x) for x in range(3) for role in "tu"]
        own = [(0, "r", 1), (0, "s", 1), (0, "s", 2), (1, "s", 2)]
        self.assertEqual(found, World([("a",), (), ()], sorted(own + loops)))
        self.assertEqual(closed([], chain(4)), chain(4))
        self.assertEqual(len(closed([("passes", "r")], chain(50)).edges()), 50 * 49 // 2)

    def test_by_chance(self):
        for seed in range(150):
            chance = Chance(seed, roles=("r", "s", "t"))
            book, world = chance.book(6), chance.world(4)
            broken = [index for index, rule in enumerate(book) if not slow_keeps(world, rule)]
            self.assertEqual(broken_rules(book, world), broken)
            found = closed(book, world)
            self.assertEqual(found.names(), world.names())
            self.assertTrue(set(world.edges()) <= set(found.edges()))
            self.assertTrue(all(slow_keeps(found, rule) for rule in book if rule[0] != "within"))
            self.assertEqual(found.edges(), slow_closing(book, len(world), world.edges()))

    def test_refusals(self):
        for function in (broken_rules, closed):
            for bad in [None, 1, True, [()], ([()], [])]:
                with self.assertRaises(BadWorld):
                    function([], bad)
                with self.assertRaises(BadBook):
                    function(None, bad)
                with self.assertRaises(BadBook):
                    function([bad], bad)

    def test_arguments_stay(self):
        book, world = [("passes", "r")], chain(3)
        closed(book, world)
        self.assertEqual((book, world), ([("passes", "r")], chain(3)))


if __name__ == "__main__":
    unittest.main()
