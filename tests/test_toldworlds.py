"""[8] Terms, and the told world."""

import unittest

from conceptworlds.books import broken_rules, under, words_of
from conceptworlds.concepts import parts, text
from conceptworlds.errors import BadBook, BadConcept, NoWorld
from conceptworlds.following import follows
from conceptworlds.toldworlds import terms, told_world
from conceptworlds.worlds import World
from tests.support import Chance, slow_closing, somes

NEVER = [("within", "all", "none")]


def slow_terms(book, asked):
    found = {"all", "none"}
    for concept in [part for rule in book if rule[0] == "within" for part in rule[1:]] + list(asked):
        found |= set(parts(concept))
    roles = words_of(book)[1]
    for concept in list(found):
        if isinstance(concept, tuple) and concept[0] == "some":
            found |= {("some", role, concept[2]) for role in roles
                      if ("passes", role) in book and under(book, role, concept[1])}
    return sorted(found, key=text)


def slow_edges(book, things):
    """The edges of the told world, by the words of the document."""
    edges = {(x, one[1], things.index(one[2])) for x, thing in enumerate(things) for one in things
             if isinstance(one, tuple) and one[0] == "some" and follows(book, thing, one)}
    return slow_closing(book, len(things), edges)


class Terms(unittest.TestCase):
    def test_terms(self):
        self.assertEqual(terms([]), ["all", "none"])
        self.assertEqual(terms((), "b", ("and", "a", "b")), ["a", ("and", "a", "b"), "all", "b", "none"])
        book = [("passes", "r"), ("passes", "s"), ("below", "r", "s"), ("below", "s", "t"), ("below", "q", "t")]
        self.assertEqual(terms(book), ["all", "none"])
        self.assertEqual(terms(book, ("some", "t", "a")),
                         ["a", "all", "none", ("some", "r", "a"), ("some", "s", "a"), ("some", "t", "a")])
        self.assertEqual(terms(book, ("some", "q", "a")), ["a", "all", "none", ("some", "q", "a")])
        self.assertEqual(terms(book + [("below", "t", "q")], ("some", "q", "a"))[3:],
                         [("some", role, "a") for role in "qrs"])
        self.assertEqual(terms([("within", ("some", "s", ("some", "s", "a")), "b"), ("passes", "r"), ("below", "r", "s")]),
                         ["a", "all", "b", "none", ("some", "r", "a"), ("some", "r", ("some", "s", "a")),
                          ("some", "s", "a"), ("some", "s", ("some", "s", "a"))])

    def test_by_chance(self):
        for seed in range(150):
            chance = Chance(seed, roles=("r", "s", "t"))
            book, asked = chance.book(6), [chance.concept(3) for _ in range(seed % 3)]
            self.assertEqual(terms(book, *asked), slow_terms(book, asked))

    def test_deep(self):
        self.assertEqual(len(terms([("passes", "q"), ("below", "q", "r")], somes(100))), 203)


class ToldWorlds(unittest.TestCase):
    def test_empty_book(self):
        self.assertEqual(told_world([]), (World([()], []), ["all"]))
        self.assertEqual(told_world((), "a"), (World([("a",), ()], []), ["a", "all"]))

    def test_nothing_is_left_out(self):
        book = [("within", "a", "b"), ("within", "b", "none"), ("within", "c", ("some", "r", "d"))]
        world, things = told_world(book)
        self.assertEqual(things, ["all", "c", "d", ("some", "r", "d")])
        self.assertEqual(world, World([(), ("c",), ("d",), ()], [(1, "r", 2), (3, "r", 2)]))

    def test_role_rules(self):
        book = [("passes", "r"), ("below", "r", "s"), ("below", "t", "t"), ("itself", "u"), ("within", "a", ("some", "r", "b")),
                ("within", "b", ("some", "r", "c")), ("below", "u", "v")]
        world, things = told_world(book)
        self.assertEqual(things, ["a", "all", "b", "c", ("some", "r", "b"), ("some", "r", "c")])
        for x, role, y in [(0, "r", 2), (0, "r", 3), (0, "s", 3), (2, "r", 3), (4, "r", 3), (5, "s", 3), (1, "u", 1),
                           (3, "v", 3)]:
            self.assertIn((x, role, y), world)
        self.assertEqual(world.edges(), slow_edges(book, things))

    def test_name_that_is_a_role(self):
        world, things = told_world([("within", "r", ("some", "r", "r"))])
        self.assertEqual((things, world.edges()), (["all", "r", ("some", "r", "r")], [(1, "r", 1), (2, "r", 1)]))
        self.assertEqual(world.words(), (("r",), ("r",)))

    def test_by_chance(self):
        kept = 0
        for seed in range(120):
            chance = Chance(seed)
            book, asked = chance.book(5), [chance.concept(2) for _ in range(seed % 3)]
            if follows(book, "all", "none"):
                with self.assertRaises(NoWorld):
                    told_world(book, *asked)
                continue
            kept += 1
            world, things = told_world(book, *asked)
            expected = [term for term in slow_terms(book, asked) if not follows(book, term, "none")]
            self.assertEqual(things, expected)
            names = [one for one in slow_terms(book, asked) if isinstance(one, str) and one not in ("all", "none")]
            rows = [tuple(name for name in names if follows(book, thing, name)) for thing in things]
            self.assertEqual(world.names(), rows)
            self.assertEqual(world.edges(), slow_edges(book, things))
            self.assertEqual(broken_rules(book, world), [])
            for _ in range(5):
                concept = chance.concept(3)
                held = [x for x, thing in enumerate(things) if follows(book, thing, concept)]
                self.assertEqual(world.things_in(concept), held)
        self.assertGreater(kept, 60)

    def test_new_lists(self):
        found = told_world([], "a")[1]
        found.clear()
        self.assertEqual(told_world([], "a")[1], ["a", "all"])


class Refusals(unittest.TestCase):
    def test_refusals(self):
        for function in (terms, told_world):
            for bad in [None, 1, True, "a", {}]:
                with self.assertRaises(BadBook) as caught:
                    function(bad, None)
                self.assertIsNone(caught.exception.index)
            with self.assertRaises(BadBook) as caught:
                function([*NEVER, ("within", "a", "b", "c")], "A")
            self.assertEqual(caught.exception.index, 1)
            for bad in [None, 1, True, "A", ("and", "a"), ["some", "r", "a"], somes(101)]:
                with self.assertRaises(BadConcept):
                    function([], bad)
                with self.assertRaises(BadConcept):
                    function([], "a", bad)

    def test_no_world(self):
        with self.assertRaises(NoWorld):
            told_world(NEVER)
        with self.assertRaises(NoWorld):
            told_world([("within", "all", ("some", "r", "a")), ("within", "a", "none")], "a")
        # asked concepts are checked last
        with self.assertRaises(NoWorld):
            told_world(NEVER, None)
        self.assertEqual(terms(NEVER), ["all", "none"])


if __name__ == "__main__":
    unittest.main()
