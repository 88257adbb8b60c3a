"""[10] Standings."""

import unittest

from conceptworlds.errors import BadBook, BadConcept, BadWords, NotSame
from conceptworlds.following import follows
from conceptworlds.books import words_of
from conceptworlds.kinds import kind
from conceptworlds.standings import has_loss, standing
from conceptworlds.taking import Apart, compare
from conceptworlds.toldworlds import told_world
from tests.support import Chance, somes
from tests.test_taking import BAD_WORDS

AB = [("within", "a", ("some", "r", "b"))]
NEVER = [("within", "all", "none")]


class Standings(unittest.TestCase):
    def test_told_words(self):
        # the told world of AB has the things a, all, b, some r b
        self.assertEqual(standing(AB, [], (("a",), ("r",)), "a"),
                         (("a", "all", ("some", "r", "b")), ("a", "all"), (0, 1, 2, 3), (1, 2), (("r", 1), ("r", 2)), ()))
        self.assertIs(has_loss(AB, [], (("a",), ("r",)), "a"), True)
        self.assertIs(has_loss(AB, AB, (("a",), ("r",)), "a"), False)
        self.assertIs(has_loss(AB, [], (("a",), ("r",)), "all"), False)

    def test_role_that_is_not_told(self):
        found = standing(AB, [], (("a",), ()), "a")
        self.assertEqual(found[4:], ((("r", 1), ("r", 2), ("r", 3)), ()))
        self.assertIs(has_loss(AB, [], (("a",), ()), "a"), False)

    def test_name_that_is_lost(self):
        book = [("within", "a", "c"), ("within", "c", "b")]
        self.assertIs(has_loss(book, [], (("a", "b"), ()), "a"), True)
        self.assertIs(has_loss(book, [("within", "a", "b")], (("a", "b"), ()), "a"), False)
        self.assertIs(has_loss(book, book[1:], (("a", "b"), ()), "a"), True)
        self.assertIs(has_loss([("within", "a", "none")], [], (("a",), ()), "a"), True)

    def test_words_without(self):
        self.assertEqual(standing([], [], ((), ()), "all"), (("all",), ("all",), (0,), (0,), (), ()))
        self.assertEqual(standing([], [], ((), ()), "none"), (("all", "none"), ("all", "none"), (0,), (0,), (), ()))
        self.assertEqual(standing([], [], ((), ("r",)), "none")[4:], ((("r", 0),), (("r", 0),)))
        self.assertEqual(standing([], [], ((), ("r",)), ("some", "r", "all"))[2:], ((0,), (0,), (("r", 0),), (("r", 0),)))

    def test_no_world(self):
        words = ("a",), ("r",)
        self.assertEqual(standing(NEVER, [], words, "a"), (("a", "all", "none"), ("a", "all"), (), (), (), ()))
        self.assertIs(has_loss(NEVER, [], words, "a"), True)
        self.assertEqual(standing([], NEVER, words, "a"),
                         (("a", "all"), ("a", "all", "none"), (0, 1), (0, 1), (), (("r", 0), ("r", 1))))
        self.assertIs(has_loss([], NEVER, words, "a"), False)
        self.assertIs(has_loss(NEVER, NEVER, words, "a"), False)

    def test_same_role_rules(self):
        rules = [("passes", "r"), ("below", "r", "s")]
        standing(rules, rules[::-1] + rules, ((), ()), "all")
        self.assertEqual(standing(rules, rules[::-1], ((), ()), "all")[4:], ((), ()))
        self.assertEqual(standing([("itself", "r")], [("itself", "r")], ((), ()), "all")[4:], ((("r", 0),), (("r", 0),)))

    def test_by_chance(self):
        losses = 0
        for seed in range(240):
            chance = Chance(seed, names=("a", "b", "c"))
            first = chance.book(5)
            second = [rule for rule in first if rule[0] != "within" or chance.random.random() < 0.6]
            second += [("within", chance.concept(1), chance.concept(1))] if seed % 4 == 0 else []
            words = ("a", "b", "c"), ("r", "s")
            if seed % 2:
                words = chance.some_of(words[0]), chance.some_of(("r", "s", "t"))
            told = Chance(seed + 1000, *words)
            concept = told.concept(2) if words[0] else "all"
            losses += self.check(first, second, words, concept, told)
        self.assertGreater(losses, 5)

    def check(self, first, second, words, concept, chance):
        found = standing(first, second, words, concept)
        self.assertEqual(found[0], kind(first, concept, *words[0]))
        self.assertEqual(found[1], kind(second, concept, *words[0]))
        lost = any(one in found[0] and one not in found[1] for one in ("none", *words[0]))
        lost = lost or any(pair[0] in words[1] and pair not in found[5] for pair in found[4])
        self.assertIs(has_loss(first, second, words, concept), lost)
        if follows(first, "all", "none"):
            self.assertEqual(found[2:], ((), (), (), ()))
            return lost
        world, _ = told_world(first, *words[0])
        roles = sorted({*words_of(first)[1], *words_of(second)[1], *words[1]})
        for book, things, pairs in [(first, found[2], found[4]), (second, found[3], found[5])]:
            every = [(role, x) for role in roles for x in range(len(world))]
            self.assertEqual(things, tuple(x for x in range(len(world)) if x in things))
            self.assertEqual(pairs, tuple(pair for pair in every if pair in pairs))
            if follows(book, concept, "none"):
                self.assertEqual((len(things), len(pairs)), (len(world), len(every)))
                continue
            self.check_places(book, world, words, concept, things, pairs, roles)
        return lost

    def check_places(self, book, world, words, concept, things, pairs, roles):
        """Each thing that is left out is refuted by a concept in told words; no such concept refutes the others."""
        other, terms = told_world(book, concept)
        start = terms.index(concept)
        for x in range(len(world)):
            found = compare(world, x, other, start, words)
            self.assertEqual(isinstance(found, Apart), x not in things)
            if isinstance(found, Apart):
                self.assertFalse(follows(book, concept, found.concept))
            for role in roles:
                ends = [y for z, by, y in other.edges() if z == start and by == role]
                apart = [one for one in [compare(world, x, other, y, words) for y in ends] if isinstance(one, Apart)]
                self.assertEqual(len(apart) < len(ends), (role, x) in pairs)
                if (role, x) not in pairs:
                    joint = ("and", "all", "all", *[one.concept for one in apart])
                    self.assertFalse(follows(book, concept, ("some", role, joint)))
        chance = Chance(len(things), *words)
        for told in [chance.concept(2, False) if words[0] else "all" for _ in range(4)]:
            for x in world.things_in(told):
                if x in things:
                    self.assertTrue(follows(book, concept, told))
                for role in roles:
                    if (role, x) in pairs:
                        self.assertTrue(follows(book, concept, ("some", role, told)))


class Refusals(unittest.TestCase):
    def test_in_order(self):
        for function in (standing, has_loss):
            for bad in [None, 1, True, "a", {}, [None]]:
                for books in [(bad, [("passes", "r")]), ([("passes", "r")], bad), (bad, bad)]:
                    with self.assertRaises(BadBook):
                        function(*books, None, None)
            with self.assertRaises(BadBook) as caught:
                function([("passes", "r"), 1], [1], None, None)
            self.assertEqual(caught.exception.index, 1)
            for books in [([("passes", "r")], []), ([], [("itself", "r")]), ([("below", "r", "s")], [("below", "s", "r")]),
                          ([("passes", "r"), ("itself", "r")], [("passes", "r")])]:
                with self.assertRaises(NotSame):
                    function(*books, None, None)
            for bad in BAD_WORDS:
                with self.assertRaises(BadWords):
                    function([], [], bad, None)
            for bad in [None, 1, True, "A", "b", ("and", "a"), ("some", "s", "a"), ("some", "r", "b"), somes(101),
                        ["some", "r", "a"], ("some", "a", "a")]:
                with self.assertRaises(BadConcept):
                    function([], [], (("a",), ("r",)), bad)


if __name__ == "__main__":
    unittest.main()
