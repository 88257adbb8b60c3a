"""[18] Views and steps."""

import unittest

from conceptworlds.books import words_of
from conceptworlds.errors import BadBook, BadConcept, BadThing, BadWords, BadWorld
from conceptworlds.following import follows
from conceptworlds.kinds import kind
from conceptworlds.taking import TakenIn, compare
from conceptworlds.toldworlds import told_world
from conceptworlds.views import step, view
from conceptworlds.worlds import World
from tests.support import (BAD_BOOKS, OTHERS, Chance, keeping_world, rename, rename_told, seen_in_words, shuffled, somes)
from tests.test_plain import BAD_CONCEPTS
from tests.test_taking import BAD_WORDS
from tests.test_wordrules import BAD_WORLDS

RING = World([()], [(0, "r", 0)])
WORLD = World([("a",), ("a", "b"), ()], [(0, "r", 1), (0, "s", 1), (1, "r", 1), (1, "r", 2), (1, "t", 0)])


class Views(unittest.TestCase):
    def test_ordinary(self):
        self.assertEqual(view([], WORLD, "a"), (("a", "all"), (2,), ()))
        self.assertEqual(view([], WORLD, ("some", "r", "a"))[1:], ((2,), (("r", 2),)))
        self.assertEqual(view([], World([("a",), ()], [(0, "r", 1)]), ("and", "a", ("some", "r", "all"))),
                         (("a", "all"), (0, 1), (("r", 1),)))

    def test_words_with_and_without(self):
        both = ("and", "a", ("some", "r", "b"))
        self.assertEqual(view([], WORLD, both, told_words=((), ())), (("all",), (0, 1, 2), (("r", 0), ("r", 1), ("r", 2))))
        self.assertEqual(view([], WORLD, both, told_words=(("a",), ())), (("a", "all"), (0, 1, 2), (("r", 2),)))
        self.assertEqual(view([], WORLD, both, told_words=((), ("r",))), (("all",), (2,), (("r", 2),)))
        self.assertEqual(view([], WORLD, both, told_words=((), ("s",)))[1], (1, 2))
        self.assertEqual(view([], WORLD, both, told_words=(("c",), ("q",)))[1:], ((0, 1, 2), (("r", 0), ("r", 1), ("r", 2))))
        self.assertEqual(view([], WORLD, both, told_words=(("a", "b"), ("r", "s", "t"))), view([], WORLD, both))

    def test_roles_of_the_book_and_of_the_world(self):
        # q is a role of the book that the world does not have, s one of the world that the book does not have.
        book, world = [("within", "c", ("some", "q", "b"))], World([("b",)], [(0, "s", 0)])
        self.assertEqual(view(book, world, "c"), (("all", "c", ("some", "q", "b")), (), ()))
        self.assertEqual(view(book, world, "c", told_words=((), ())), (("all", "c", ("some", "q", "b")), (0,), (("q", 0),)))
        self.assertEqual(view(book, world, ("some", "s", "b"), told_words=(("b",), ())), (("all",), (), (("s", 0),)))
        self.assertEqual(view(book, world, ("some", "u", "b"), told_words=(("b",), ("u",))), (("all",), (), (("u", 0),)))
        self.assertEqual(view(book, world, ("some", "u", "b"), told_words=(("b",), ())), (("all",), (), ()))
        self.assertEqual(view([("below", "s", "q")], World([("b",)], [(0, "q", 0), (0, "s", 0)]), ("some", "s", "b"),
                              told_words=(("b",), ()))[2], (("q", 0), ("s", 0)))

    def test_nothing(self):
        book = [("within", ("and", "a", "b", "c"), "none"), ("below", "s", "r"), ("below", "t", "q")]
        world = World([(), ("a", "b")], [])
        every = tuple((role, x) for role in ("q", "r", "s", "t", "u") for x in (0, 1))
        for concept in ("none", ("and", "a", "b", "c"), ("some", "r", "none"), ("and", "x", ("some", "y", "none"))):
            found = view(book, world, concept, told_words=(("a",), ("u",)))
            self.assertEqual(found, (("a", ("and", "a", "b", "c"), "all", "b", "c", "none"), (0, 1), every))
        self.assertEqual(view([], world, "none"), (("a", "all", "b", "none"), (0, 1), ()))

    def test_by_chance(self):
        for seed in range(250):
            chance = Chance(seed, names=("a", "b", "c")[:1 + seed % 3])
            book = chance.book(5)
            world = keeping_world(chance, book)
            if world is None:
                continue
            words = None if seed % 3 == 0 else (chance.some_of(("a", "b", "c")), chance.some_of(("r", "s", "t")))
            concept = chance.concept(2)
            found = view(book, world, concept, told_words=words)
            self.check(found, book, world, concept, words)
            self.assertEqual(view(shuffled(book, chance), world, concept, told_words=words), found)
            others = None if words is None else rename_told(words, OTHERS)
            other = view(rename(book, OTHERS), rename(world, OTHERS), rename(concept, OTHERS), told_words=others)
            self.assertEqual(other[1], found[1])
            self.assertEqual(other[2], tuple(sorted((OTHERS[role], x) for role, x in found[2])))

    def check(self, found, book, world, concept, words):
        told = words or (world.words()[0], tuple(sorted({*world.words()[1], *words_of(book)[1]})))
        roles = sorted({*told[1], *world.words()[1], *words_of(book)[1]})
        things = range(len(world))
        self.assertEqual(found[0], kind(book, concept, *told[0]))
        if follows(book, concept, "none"):
            self.assertEqual(found[1:], (tuple(things), tuple((role, x) for role in roles for x in things)))
            return
        other, terms = told_world(book, concept)
        place = terms.index(concept)
        ends = {role: [y for x, by, y in other.edges() if x == place and by == role] for role in roles}
        taken = {(x, y) for x in things for y in range(len(other)) if isinstance(compare(world, x, other, y, told), TakenIn)}
        self.assertEqual(found[1], tuple(x for x in things if (x, place) in taken))
        self.assertEqual(found[2], tuple((role, x) for role in roles for x in things if any((x, y) in taken for y in ends[role])))
        for x in things:
            for level in range(3):
                seen = seen_in_words(world, x, level, told)
                if x in found[1]:
                    self.assertTrue(follows(book, concept, seen))
                for role in roles:
                    if (role, x) in found[2]:
                        self.assertTrue(follows(book, concept, ("some", role, seen)))


class Steps(unittest.TestCase):
    def test_ordinary(self):
        concepts = ["c", ("and", "b", "none"), somes(2)]
        self.assertEqual(step(WORLD, 0, concepts), ("and", "a", ("some", "r", ("and", "b", "none")), ("some", "s", ("and", "b", "none"))))
        self.assertEqual(step(WORLD, 1, concepts), ("and", "a", "b", ("some", "r", ("and", "b", "none")), ("some", "r", somes(2)), ("some", "t", "c")))
        self.assertEqual(step(WORLD, 2, concepts), "all")
        self.assertEqual(step(WORLD, 0, tuple(concepts)), step(WORLD, 0, concepts))

    def test_told_words(self):
        concepts = ["c", "d", "d"]
        self.assertEqual(step(WORLD, 0, concepts, told_words=((), ("s",))), ("some", "s", "d"))
        self.assertEqual(step(WORLD, 0, concepts, told_words=(("a",), ())), "a")
        self.assertEqual(step(WORLD, 0, concepts, told_words=(("c",), ("q",))), "all")
        self.assertEqual(step(WORLD, 1, concepts, told_words=(("b", "c"), ("q", "r", "t"))), ("and", "b", ("some", "r", "d"), ("some", "t", "c")))

    def test_parts_only_where_they_first_come(self):
        self.assertEqual(step(WORLD, 1, ["c", "d", "d"]), ("and", "a", "b", ("some", "r", "d"), ("some", "t", "c")))
        self.assertEqual(step(WORLD, 0, ["c", "d", "d"]), ("and", "a", ("some", "r", "d"), ("some", "s", "d")))
        star = World([()] * 4, [(0, "r", 1), (0, "r", 2), (0, "r", 3)])
        self.assertEqual(step(star, 0, ["a", "c", "b", "c"]), ("and", ("some", "r", "c"), ("some", "r", "b")))
        self.assertEqual(step(star, 0, ["a", "b", "b", "b"]), ("some", "r", "b"))


class Refusals(unittest.TestCase):
    def test_view(self):
        broken = [("within", "a", "b")]
        for bad in BAD_BOOKS:
            with self.assertRaises(BadBook):
                view(bad, None, None, told_words=1)
        for bad in BAD_WORLDS:
            with self.assertRaises(BadWorld):
                view([], bad, None, told_words=1)
        with self.assertRaises(BadWorld):
            view(broken, WORLD, None, told_words=1)
        for bad in BAD_CONCEPTS:
            with self.assertRaises(BadConcept):
                view([], WORLD, bad, told_words=1)
        for bad in [one for one in BAD_WORDS if one is not None]:
            with self.assertRaises(BadWords):
                view([], WORLD, "a", told_words=bad)

    def test_step(self):
        for bad in BAD_WORLDS:
            with self.assertRaises(BadWorld):
                step(bad, None, None, told_words=1)
        for bad in [None, True, False, -1, 3, "a", (0,)]:
            with self.assertRaises(BadThing):
                step(WORLD, bad, None, told_words=1)
        for bad in [None, "aaa", ["a"], ["a"] * 4, ("a", "b"), ["a", "a", "some"], {"a": 1, "b": 2, "c": 3}, ["a", "a", None], 3]:
            with self.assertRaises(BadConcept):
                step(WORLD, 0, bad, told_words=1)
        for bad in [one for one in BAD_WORDS if one is not None]:
            with self.assertRaises(BadWords):
                step(WORLD, 0, ["a", "a", "a"], told_words=bad)


if __name__ == "__main__":
    unittest.main()
