"""[11] Does a book say what another one says?"""

import copy
import unittest

from conceptworlds.concepts import depth, words_in
from conceptworlds.errors import BadBook, BadWords, NotSame
from conceptworlds.following import follows
from conceptworlds.saying import Loses, Says, says
from conceptworlds.standings import has_loss, standing
from tests.support import OTHERS, Chance, rename, rename_told, small_concepts, somes
from tests.test_taking import BAD_WORDS

NEVER = [("within", "all", "none")]
AB = [("within", "a", ("some", "r", "b"))]


def is_in(concept, words):
    return all(set(told) <= set(row) for told, row in zip(words_in(concept), words))


def is_closed(concepts, first, second, words):
    """Whether some concepts are those of a Says, by the words of the document."""
    if not all(is_in(concept, words) for concept in concepts):
        return False
    if not set(concepts) >= {"all", *words[0]} or any(has_loss(first, second, words, one) for one in concepts):
        return False
    known = [standing(first, second, words, concept) for concept in concepts]
    made = [("some", role, one) for role in words[1] for one in concepts]
    made += [("and", one, other) for one in concepts for other in concepts]
    return all(standing(first, second, words, one) in known for one in made)


def books(seed, names=("a", "b", "c"), most=5):
    """Two books with the same role rules, and told words."""
    chance = Chance(seed, names=names)
    first = chance.book(most)
    second = [rule for rule in first if rule[0] != "within" or chance.random.random() < 0.6]
    if seed % 4 == 0:
        second += [("within", chance.concept(1), chance.concept(1))]
    if seed % 3 == 0:
        chance.random.shuffle(second)
    return first, second, (chance.some_of(names), chance.some_of(("r", "s", "t"))), chance


class Saying(unittest.TestCase):
    def test_told_words(self):
        self.assertEqual(says(AB, [], (("a",), ())), Says(["all", "a"]))
        self.assertEqual(says(AB, [], (("a",), ("r",))), Loses("a", ("some", "r", "all")))
        self.assertEqual(says(AB, [], (("b",), ("r",))).concepts[:2], ["all", "b"])
        self.assertEqual(says(AB, [], ((), ())), Says(["all"]))
        self.assertIsInstance(says(AB, [], ((), ("r",))), Says)
        self.assertEqual(says([("within", "all", somes(1, "all"))], [], ((), ("r",))), Loses("all", somes(1, "all")))
        self.assertEqual(says(AB, [], (("z",), ("z",))).concepts[:2], ["all", "z"])

    def test_detours(self):
        first = [("within", "a", "c"), ("within", "c", "b")]
        self.assertEqual(says(first, [], (("a", "b"), ())), Loses("a", "b"))
        self.assertIsInstance(says(first, [("within", "a", "b")], (("a", "b"), ("r",))), Says)
        self.assertIsInstance(says(first, [("within", "a", "b")], (("a", "b", "c"), ())), Loses)
        more = [("within", ("some", "r", "c"), "none"), ("within", "a", "c")]
        self.assertEqual(says(more, more[:1], (("a",), ("r",))), Loses(("some", "r", "a"), "none"))

    def test_least_depth(self):
        for count in range(5):
            first = [("within", somes(count), "b")]
            found = says(first, [], (("a", "b"), ("r",)))
            self.assertEqual((depth(found.concept), found.other), (count, "b"))
            first = [("within", somes(count), somes(2, "b"))]
            found = says(first, [], (("a", "b"), ("r",)))
            self.assertEqual(depth(found.concept), count)
            first = [("within", somes(count, "all"), "b")]
            self.assertEqual(says(first, [], (("a", "b"), ("r",))), Loses(somes(count, "all"), "b"))
        first = [("itself", "s"), ("within", ("some", "r", ("some", "s", "c")), ("some", "r", "a"))]
        found = says(first, first[:1], (("a", "c"), ("r", "s")))
        self.assertEqual(depth(found.concept), 1)
        first = [("passes", "r"), ("within", somes(3), "b")]
        self.assertEqual(depth(says(first, first[:1], (("a", "b"), ("r",))).concept), 3)
        self.assertFalse(Loses(somes(4), "b").shows(first, first[:1], (("a", "b"), ("r",))))

    def test_each_pair(self):
        words = tuple("abcdefg"), ("r",)
        for at, one in enumerate("abcdef"):
            for other in "abcdef"[:at]:
                for target in ("g", somes(1, "g"), "none"):
                    found = says([("within", ("and", one, other), target)], [], words)
                    self.assertEqual(set(found.concept), {"and", one, other})
                found = says([("within", ("and", somes(1, one), somes(1, other)), "g")], [], words)
                self.assertEqual(set(found.concept), {"and", somes(1, one), somes(1, other)})

    def test_one_of_two_is_lost(self):
        both = [("within", "w", "c"), ("within", "x", "c")]
        for one, other in [("w", "x"), ("x", "w")]:
            first, second = [*both, ("within", somes(1, "c"), somes(1, "y"))], [*both, ("within", one, "y")]
            self.assertEqual(says(first, second, (("w", "x", "y"), ("r",))).concept, somes(1, other))
            self.assertIsInstance(says(first, [*second, ("within", other, "y")], (("w", "x", "y"), ("r",))), Says)

    def test_role_rules(self):
        rules = [("passes", "r"), ("below", "r", "s"), ("itself", "s")]
        self.assertIsInstance(says(rules, rules[::-1] + rules[:1], (("a",), ("r", "s"))), Says)
        first = [*rules, ("within", "a", somes(1, "b"))]
        found = says(first, [*rules[::-1], *rules], (("a", "b"), ("s",)))
        self.assertEqual((found.concept, found.other[:2]), ("a", ("some", "s")))
        self.assertTrue(Loses("a", ("some", "s", "b")).shows(first, rules, (("a", "b"), ("s",))))

    def test_no_world(self):
        words = ("a",), ("r",)
        self.assertEqual(says(NEVER, [], words), Loses("all", "none"))
        self.assertIsInstance(says([], NEVER, words), Says)
        found = says(NEVER, NEVER, words)
        self.assertEqual(found, Says(["all", "a"]))
        self.assertTrue(found.shows(NEVER, NEVER, words))
        self.assertEqual(says(NEVER, [], ((), ())), Loses("all", "none"))

    def test_by_chance(self):
        found = {Says: 0, Loses: 0}
        for seed in range(200):
            first, second, words, chance = books(seed)
            words = (words[0][:2], words[1][:2]) if seed % 2 else (words[0], words[1][:1])
            evidence = says(first, second, words)
            found[type(evidence)] += 1
            self.assertTrue(evidence.shows(first, second, words))
            small = small_concepts(words, 2)
            if isinstance(evidence, Loses):
                self.check_loss(evidence, first, second, words, small)
            else:
                for one, other in [chance.random.choices([*small, "none"], k=2) for _ in range(10)]:
                    self.assertTrue(not follows(first, one, other) or follows(second, one, other))
                if len(evidence.concepts) < 12:
                    self.assertTrue(is_closed(evidence.concepts, first, second, words))
        self.assertGreater(min(found.values()), 25)

    def check_loss(self, evidence, first, second, words, small):
        self.assertTrue(is_in(evidence.concept, words) and is_in(evidence.other, words))
        self.assertTrue(follows(first, evidence.concept, evidence.other))
        self.assertFalse(follows(second, evidence.concept, evidence.other))
        self.assertTrue(has_loss(first, second, words, evidence.concept))
        for concept in small:
            if depth(concept) < depth(evidence.concept):
                self.assertFalse(has_loss(first, second, words, concept))

    def test_other_words(self):
        for seed in range(120):
            first, second, words, _ = books(seed)
            words = words[0][:2], words[1][:2]
            one = says(first, second, words)
            other = says(rename(first, OTHERS), rename(second, OTHERS), rename_told(words, OTHERS))
            self.assertIs(type(one), type(other))
            if isinstance(one, Loses):
                self.assertEqual(depth(one.concept), depth(other.concept))
                back = Loses(rename(one.concept, OTHERS), rename(one.other, OTHERS))
                self.assertTrue(back.shows(rename(first, OTHERS), rename(second, OTHERS), rename_told(words, OTHERS)))
            else:
                self.assertEqual(len(one.concepts), len(other.concepts))

    def test_many_words(self):
        first = [("within", "a", ("some", "r", "b")), ("within", somes(2, "b"), "c")]
        words = tuple("abcdefghij"), ("r", "s", "t")
        self.assertEqual(depth(says(first, first[:1], words).concept), 1)
        self.assertEqual(says(first, first[1:], words).concept, "a")
        self.assertEqual(depth(says(first[1:], [], words).concept), 2)
        self.assertTrue(Loses(somes(2, "b"), "c").shows(first[1:], [], words))
        self.assertFalse(Loses(somes(2, "b"), "c").shows(first, first[:1], words))


class Shows(unittest.TestCase):
    def test_altered_says(self):
        first = [("within", "a", "c"), ("within", "c", "b"), ("within", "b", ("some", "r", "b"))]
        second, words = [("within", "a", "b"), first[2]], (("a", "b"), ("r",))
        found = says(first, second, words)
        for at, concept in enumerate(found.concepts):
            others = found.concepts[:at] + found.concepts[at + 1:]
            self.assertIs(Says(others).shows(first, second, words), is_closed(others, first, second, words))
            self.assertFalse(Says(others).shows(first, second, words))
        self.assertTrue(Says(found.concepts[::-1]).shows(first, second, words))
        self.assertTrue(Says((*found.concepts, *found.concepts)).shows(first, second, words))
        for more in ["none", ("and", "a", "a"), ("some", "r", ("and", "b", "none")), somes(7)]:
            self.assertTrue(Says([*found.concepts, more]).shows(first, second, words))
        for more in ["c", ("some", "s", "a"), ("and", "a", "d")]:
            self.assertFalse(Says([*found.concepts, more]).shows(first, second, words))
        self.assertFalse(Says([]).shows(first, second, words))
        self.assertFalse(found.shows(first, [], words))
        self.assertFalse(found.shows(first, second, (("a", "b", "c"), ("r",))))
        self.assertFalse(found.shows(first, second, (("a",), ("r",))))

    def test_says_by_chance(self):
        for seed in range(120):
            first, second, words, chance = books(seed)
            words = words[0][:2], words[1][:1]
            found = says(first, second, words)
            if isinstance(found, Says) and len(found.concepts) < 12:
                for at in range(len(found.concepts)):
                    others = found.concepts[:at] + found.concepts[at + 1:]
                    self.assertIs(Says(others).shows(first, second, words), is_closed(others, first, second, words))

    def test_a_loss_among_the_concepts(self):
        words = ("a", "b"), ("r",)
        closed = says([], [], words).concepts
        self.assertTrue(Says(closed).shows([], [], words))
        self.assertFalse(Says(closed).shows(AB, [], words))
        self.assertFalse(Says([*closed, "a"]).shows(AB, [], words))
        first, words = [("within", "a", "b")], (("a", "b"), ())
        self.assertTrue(Says(["all", "a", "b", ("and", "a", "b")]).shows([], first, words))
        self.assertFalse(Says(["all", "a", "b", ("and", "a", "b")]).shows(first, [], words))
        self.assertFalse(Says(["all", "a"]).shows([("within", "a", "none")], [], (("a",), ())))
        pieces = ["all", somes(1, "all"), somes(2, "all"), somes(3, "all"), somes(4, "all")]
        first, words = [("within", somes(1, "all"), somes(2, "all"))], ((), ("r",))
        self.assertTrue(Says(pieces).shows(first, first, words))
        self.assertFalse(Says(pieces).shows(first, [], words))

    def test_altered_loses(self):
        first, words = [("within", somes(1), "b"), ("within", "c", "a")], (("a", "b", "c"), ("r",))
        second = [("within", "c", "a")]
        for concept in [somes(1), somes(1, "c"), ("and", "a", somes(1)), ("and", somes(1), "all"), somes(1, ("and", "a", "b"))]:
            self.assertTrue(Loses(concept, "b").shows(first, second, words))
            self.assertTrue(Loses(concept, ("and", "b", "all")).shows(first, second, words))
            self.assertFalse(Loses(concept, "a").shows(first, second, words))
            self.assertFalse(Loses(concept, somes(1, "all")).shows(first, second, words))
        for concept, other in [(somes(2), somes(1, "b")), ("c", "a"), ("a", "b"), (somes(1, ("and", "a", somes(1))), "b"),
                               (("and", somes(1), somes(2)), "b"), ("none", "b"), (somes(1), "all")]:
            self.assertFalse(Loses(concept, other).shows(first, second, words))
        self.assertFalse(Loses(somes(1), "b").shows(first, second, (("a", "c"), ("r",))))
        more = [*first, ("within", somes(1), ("and", "d", somes(1, "b", "s")))]
        for other, right in [("b", True), ("d", False), (("and", "b", "d"), False), (somes(1, "b", "s"), False), (somes(1, "a"), False)]:
            self.assertIs(Loses(somes(1), other).shows(more, second, words), right)
        self.assertNotEqual(Loses(somes(1), "b"), Loses(somes(1), "a"))
        self.assertNotEqual(Loses(somes(1), "b"), Loses("a", "b"))
        self.assertFalse(Loses(somes(1), "b").shows(first, second, (("a", "b"), ())))
        self.assertFalse(Loses(somes(1), "b").shows(second, first, words))
        self.assertFalse(Loses(somes(1, "a", "s"), "b").shows([*first, ("within", somes(1, "a", "s"), "b")], second, words))

    def test_new_each_time(self):
        found = says([], [], (("a",), ()))
        before = copy.deepcopy(found)
        found.concepts.append("none")
        self.assertEqual(says([], [], (("a",), ())), before)
        self.assertNotEqual(found, before)
        given = ["all", "a"]
        evidence = Says(given)
        given.append("b")
        self.assertEqual(evidence.concepts, ["all", "a"])


class Refusals(unittest.TestCase):
    def test_in_order(self):
        for function in (says, Says(["all"]).shows, Loses("a", "b").shows):
            for bad in [None, 1, True, "a", {}, [None]]:
                for pair in [(bad, [("passes", "r")]), ([("passes", "r")], bad), (bad, bad)]:
                    with self.assertRaises(BadBook):
                        function(*pair, None)
            with self.assertRaises(BadBook) as caught:
                function([("passes", "r"), 1], [1], None)
            self.assertEqual(caught.exception.index, 1)
            for pair in [([("passes", "r")], []), ([], [("itself", "r")]), ([("below", "r", "s")], [("below", "s", "r")])]:
                with self.assertRaises(NotSame):
                    function(*pair, None)
            for bad in BAD_WORDS:
                with self.assertRaises(BadWords):
                    function([], [], bad)


if __name__ == "__main__":
    unittest.main()
