"""[13] Plain questions, [14] rings."""

import copy
import unittest

from conceptworlds.concepts import parts, text, words_in
from conceptworlds.errors import BadBook, BadConcept
from conceptworlds.following import follows
from conceptworlds.kinds import kind
from conceptworlds.plain import plainly_within
from conceptworlds.questions import Exact, Ring, questions
from conceptworlds.reduced import reduced
from tests.support import OTHERS, Chance, all_words, in_order, rename, small_concepts, somes
from tests.test_plain import BAD_CONCEPTS, WITH_NONE

RA = [("within", ("some", "r", "a"), "a")]
RB = [("within", ("some", "r", "b"), "a")]
NEVER = [("within", "all", "none")]


def is_nothing(book, concept):
    return follows(book, concept, "none")


def mark(book, target, asked, concept):
    """The mark of a concept, by the words of the document."""
    told = sorted({part for question in asked for part in parts(question)}, key=text)
    return kind(book, concept, target), tuple(part for part in told if plainly_within(concept, part))


def is_exact(found, book, target):
    """Whether an Exact is as described, by the words of the document."""
    asked, concepts = found.questions, found.concepts
    words = all_words(book, target)
    for one in asked:
        if "none" in parts(one) or not in_order(one) or reduced(one) != one or is_nothing(book, one):
            return False
        if not follows(book, one, target) or any(plainly_within(one, other) for other in asked if other != one):
            return False
    if [text(one) for one in asked] != sorted({text(one) for one in asked}):
        return False
    for one in concepts:
        if "none" in parts(one) or is_nothing(book, one):
            return False
        if not all(set(told) <= set(row) for told, row in zip(words_in(one), words)):
            return False
        if follows(book, one, target) != any(plainly_within(one, other) for other in asked):
            return False
    marks = {mark(book, target, asked, one) for one in concepts}
    made = ["all", *words[0], *[("some", role, one) for role in words[1] for one in concepts]]
    made += [("and", one, other) for at, one in enumerate(concepts) for other in concepts[:at]]
    return all(is_nothing(book, one) or mark(book, target, asked, one) in marks for one in made)


def along(concept, *ways):
    for role, side in [step for way in ways for step in way]:
        concept = ("and", side, ("some", role, concept))
    return concept


def is_ring(found, book, target):
    """Whether a Ring is as described, by the words of the document."""
    told = [found.concept, *[side for way in (found.low, found.ring, found.high) for _, side in way]]
    if not found.ring or any("none" in parts(one) for one in told):
        return False
    asked = [target, *words_in(*told)[0]]
    low, top = along(found.concept, found.low), along("all", found.low)
    if kind(book, low, *asked) != kind(book, along(low, found.ring), *asked):
        return False
    if kind(book, top, *asked) != kind(book, along(top, found.ring), *asked):
        return False
    high = along(low, found.high)
    return not is_nothing(book, high) and follows(book, high, target) and not follows(book, along(top, found.high), target)


class Asking(unittest.TestCase):
    def test_ordinary(self):
        self.assertEqual(questions(RB, "a").questions, ["a", ("some", "r", "b")])
        self.assertIsInstance(questions(RA, "a"), Ring)
        self.assertEqual(questions([], "a").questions, ["a"])
        self.assertEqual(questions([], ("and", "b", ("some", "r", "all"), "a", ("some", "r", "c"))).questions,
                         [("and", "a", "b", ("some", "r", "c"))])
        self.assertEqual(questions([("within", "c", ("and", "a", "b"))], ("and", "a", "b")).questions, [("and", "a", "b"), "c"])
        self.assertEqual(questions([("within", "a", somes(1, "b")), ("within", somes(1, "b"), "c")], "c").questions,
                         ["a", "c", somes(1, "b")])

    def test_target_all(self):
        for book in ([], RA, [("passes", "r")]):
            self.assertEqual(questions(book, "all").questions, ["all"])
            self.assertEqual(questions(book, ("and", "all", "all")).questions, ["all"])
        self.assertEqual(questions([("within", "all", "a")], "a").questions, ["all"])
        self.assertEqual(questions([("itself", "r")], somes(3, "all")).questions, ["all"])

    def test_target_nothing(self):
        book = [("within", "a", "none")]
        for target in ("a", somes(1), ("and", "b", "a")):
            found = questions(book, target)
            self.assertEqual(found.questions, [])
            self.assertTrue(is_exact(found, book, target))
        self.assertEqual(questions(NEVER, "a"), Exact([], []))
        self.assertEqual(questions(NEVER, "all"), Exact([], []))
        self.assertTrue(Exact([], []).shows(NEVER, "all"))
        self.assertFalse(Exact(["all"], ["all"]).shows(NEVER, "all"))

    def test_target_that_the_book_does_not_know(self):
        for target in ("z", ("some", "t", "z"), ("and", "y", ("some", "t", "z"))):
            for book in (RA, RB):
                found = questions(book, target)
                self.assertEqual(found.questions, [reduced(target)])
                self.assertTrue(is_exact(found, book, target))
        found = questions(RB, ("and", "z", "a"))
        self.assertEqual(found.questions, [("and", "a", "z"), ("and", ("some", "r", "b"), "z")])
        self.assertIsInstance(questions(RA, ("some", "t", "a")), Ring)

    def test_questions_that_are_nothing(self):
        book = [*RB, ("within", ("and", "b", "c"), "none"), ("within", ("and", "c", "d"), "a"), ("within", ("and", "b", "c"), "a")]
        found = questions(book, "a")
        self.assertEqual(found.questions, ["a", ("and", "c", "d"), ("some", "r", "b")])
        self.assertTrue(is_exact(found, book, "a"))

    def test_questions_within_others(self):
        book = [("within", ("some", "r", "all"), "a"), ("within", somes(2, "b"), "a"), ("within", ("some", "r", "a"), "a")]
        self.assertEqual(questions(book, "a").questions, ["a", ("some", "r", "all")])
        book = [("within", ("and", "b", "c"), "a"), ("within", "b", "a")]
        self.assertEqual(questions(book, "a").questions, ["a", "b"])

    def test_ands_of_somes(self):
        book = [("within", ("and", somes(1, "b"), somes(1, "c")), "a")]
        self.assertEqual(questions(book, "a").questions, ["a", ("and", ("some", "r", "b"), ("some", "r", "c"))])
        self.assertEqual(questions(book, somes(1)).questions,
                         [("some", "r", ("and", ("some", "r", "b"), ("some", "r", "c"))), ("some", "r", "a")])
        apart = ("and", somes(1, "a"), somes(1, "b"), somes(1, "c"))
        book = [("within", apart, "t"), ("within", ("and", "a", "b"), "none"), ("within", somes(1, ("and", "a", "c")), "all")]
        found = questions(book, "t")
        self.assertEqual(found.questions, [apart, "t"])
        self.assertTrue(found.shows(book, "t"))
        pairs = [("within", ("and", ("some", "r", one), ("some", "r", two)), "t") for one, two in ["ab", "bc", "ca"]]
        self.assertEqual(len(questions(pairs, "t").questions), 4)

    def test_role_rules(self):
        self.assertEqual(questions([("below", "s", "r")], somes(1)).questions, [("some", "r", "a"), ("some", "s", "a")])
        self.assertIsInstance(questions([("passes", "r")], somes(1)), Ring)
        self.assertIsInstance(questions([("passes", "r"), ("itself", "r")], somes(1)), Ring)
        self.assertEqual(questions([("itself", "r")], somes(1)).questions, ["a", ("some", "r", "a")])
        self.assertEqual(questions([("passes", "r")], somes(1, "all")).questions, [("some", "r", "all")])
        self.assertIsInstance(questions([("passes", "s"), ("below", "s", "r")], somes(1)), Ring)

    def test_names_that_are_roles(self):
        self.assertEqual(questions([("within", ("some", "r", "r"), "a")], "a").questions, ["a", ("some", "r", "r")])
        self.assertIsInstance(questions([("within", ("some", "r", "r"), "r")], "r"), Ring)

    def test_gaps(self):
        book = [("within", somes(3, "b"), "a")]
        self.assertEqual(questions(book, "a").questions, ["a", somes(3, "b")])
        book = [("within", ("some", "r", "a"), "b"), ("within", ("some", "r", "b"), "c"), ("within", ("some", "r", "c"), "d")]
        self.assertEqual(questions(book, "d").questions, ["d", somes(1, "c"), somes(2, "b"), somes(3, "a")])

    def test_longer_rings(self):
        book = [("within", ("some", "r", "a"), "b"), ("within", ("some", "s", "b"), "c"), ("within", ("some", "t", "c"), "a")]
        for target in ("a", "b", "c", ("some", "r", ("and", "a", "z"))):
            found = questions(book, target)
            self.assertTrue(is_ring(found, book, target))
            self.assertEqual(len(found.ring) % 3, 0)
        book = [("within", ("and", ("some", "r", "a"), ("some", "s", "a"), "b"), "a")]
        self.assertTrue(is_ring(questions(book, ("some", "s", "a")), book, ("some", "s", "a")))
        many = [("within", name, "t") for name in "abcdefghijklm"] + [("within", ("some", "r", "t"), "t")]
        self.assertIsInstance(questions(many, "t"), Ring)
        self.assertIsInstance(questions(RA, somes(60)), Ring)

    def test_recursion_without_a_ring(self):
        book = [*RA, ("within", ("some", "r", "all"), "a")]
        self.assertEqual(questions(book, "a").questions, ["a", somes(1, "all")])
        book = [*RA, ("within", ("and", "b", "a"), "c")]
        self.assertEqual(questions(book, "b").questions, ["b"])
        book = [*RA, ("within", somes(2), "none")]
        self.assertEqual(questions(book, "a").questions, ["a", somes(1)])

    def test_by_chance(self):
        found = {Exact: 0, Ring: 0}
        for seed in range(240):
            chance = Chance(seed, names=("a", "b", "c")[:2 + seed % 2])
            book, target = chance.book(5), chance.concept(2, False)
            evidence = questions(book, target)
            found[type(evidence)] += 1
            self.assertTrue(evidence.shows(book, target))
            if isinstance(evidence, Ring):
                self.assertTrue(is_ring(evidence, book, target))
                continue
            for concept in chance.random.sample(small_concepts(all_words(book, target), 3) * 20, 20):
                within = any(plainly_within(concept, one) for one in evidence.questions)
                self.assertTrue(is_nothing(book, concept) or within == follows(book, concept, target))
            if len(evidence.concepts) < 14:
                self.assertTrue(is_exact(evidence, book, target))
        self.assertGreater(min(found.values()), 25)

    def test_other_words(self):
        for seed in range(150):
            chance = Chance(seed)
            book, target = chance.book(5), chance.concept(2, False)
            one, other = questions(book, target), questions(rename(book, OTHERS), rename(target, OTHERS))
            self.assertIs(type(one), type(other))
            if isinstance(one, Exact):
                renamed = [reduced(rename(question, OTHERS)) for question in one.questions]
                self.assertEqual(sorted(renamed, key=text), other.questions)
                self.assertEqual(len(one.concepts), len(other.concepts))


class ShowsExact(unittest.TestCase):
    def test_questions(self):
        concepts = questions(RB, "a").concepts
        self.assertTrue(Exact(["a", somes(1, "b")], concepts).shows(RB, "a"))
        self.assertTrue(Exact(("a", somes(1, "b")), tuple(concepts[::-1])).shows(RB, "a"))
        for asked in [[], ["a"], [somes(1, "b")], [somes(1, "b"), "a"], ["a", "a", somes(1, "b")],
                      ["a", ("and", "a", "b"), somes(1, "b")], ["a", ("and", "a", "z"), somes(1, "b")], ["a", "b", somes(1, "b")],
                      ["a", ("and", somes(1, "b"), somes(1, "all"))], [("and", "a", "a"), somes(1, "b")], ["a", somes(1, "all")],
                      ["a", somes(1, ("and", "b", "all"))], ["a", "none", somes(1, "b")], ["a", "z", somes(1, "b")],
                      ["all"], ["a", somes(1, ("and", "b", "c"))], ["a", somes(1, "b"), somes(1, "b", "s")]]:
            self.assertFalse(Exact(asked, concepts).shows(RB, "a"))
        self.assertFalse(Exact(["a", somes(1, "b")], concepts).shows(RA, "a"))
        self.assertFalse(Exact(["a", somes(1, "b")], concepts).shows(RB, "b"))
        self.assertFalse(Exact(["a", somes(1, "b")], concepts).shows([], "a"))

    def test_nothing_is_no_question(self):
        book = [*RB, ("within", ("and", "b", "c"), "none")]
        found = questions(book, "a")
        self.assertFalse(Exact(["a", ("and", "b", "c"), somes(1, "b")], found.concepts).shows(book, "a"))
        dead = ("and", "b", "c")
        for concept in [dead, ("and", dead, "a"), ("and", "a", dead), ("some", "r", dead), ("and", "a", ("some", "r", dead)), ("and", dead, dead)]:
            self.assertFalse(Exact(found.questions, [*found.concepts, concept]).shows(book, "a"))
            self.assertFalse(Exact([concept], found.concepts).shows(book, "a"))

    def test_concepts(self):
        for book, target in [(RB, "a"), ([("within", "a", "b")], ("some", "r", "b")), ([("within", "a", "none")], "a"), ([], somes(2))]:
            found = questions(book, target)
            for at in range(len(found.concepts)):
                others = Exact(found.questions, found.concepts[:at] + found.concepts[at + 1:])
                self.assertIs(others.shows(book, target), is_exact(others, book, target))
                self.assertFalse(others.shows(book, target))
            for more, right in [("all", True), (somes(4, "all"), True), (somes(1, "none"), False), ("zz", False), (somes(1, "all", "t"), False),
                                (("and", "all", "all"), True), ("none", False)]:
                other = Exact(found.questions, [*found.concepts, more])
                self.assertIs(other.shows(book, target), right and is_exact(other, book, target))
        self.assertFalse(Exact(["a"], []).shows([], "a"))
        self.assertTrue(Exact(["a"], ["a", "all"]).shows([], "a"))
        self.assertTrue(Exact(["a"], [("and", "a", "a"), ("and", "all", "all"), "a"]).shows([], "a"))

    def test_altered_by_chance(self):
        for seed in range(150):
            chance = Chance(seed)
            book, target = chance.book(4), chance.concept(1, False)
            found = questions(book, target)
            if isinstance(found, Exact) and len(found.concepts) < 10:
                for at in range(len(found.concepts)):
                    other = Exact(found.questions, found.concepts[:at] + found.concepts[at + 1:])
                    self.assertIs(other.shows(book, target), is_exact(other, book, target))
                for at in range(len(found.questions)):
                    other = Exact(found.questions[:at] + found.questions[at + 1:], found.concepts)
                    self.assertFalse(other.shows(book, target))

    def test_new_each_time(self):
        found = questions(RB, "a")
        before = copy.deepcopy(found)
        found.questions.append("c")
        found.concepts.clear()
        self.assertEqual(questions(RB, "a"), before)
        self.assertNotEqual(found, before)


class ShowsRing(unittest.TestCase):
    def test_without_steps(self):
        self.assertTrue(Ring("a", [], [("r", "all")], []).shows([*RA, ("itself", "r")], "a"))
        self.assertFalse(Ring("a", [], [("r", "all")], []).shows(RA, "a"))
        self.assertTrue(Ring(somes(1), [("r", "all")], [("r", "all")], []).shows(RA, "a"))
        self.assertTrue(Ring("a", [("r", "all")], [("r", "all")], []).shows(RA, "a"))
        self.assertFalse(Ring("a", [("r", "all")], [], []).shows(RA, "a"))
        self.assertFalse(Ring("a", [], [], []).shows([*RA, ("itself", "r")], "a"))
        book = [("within", ("some", "r", "all"), somes(1)), ("within", somes(2), somes(1))]
        for ways in [([("r", "all")], [("r", "all")], []), ([("r", "all")], [("r", "all")], [("r", "all")])]:
            found = Ring("a", *ways)
            self.assertIs(found.shows(book, "a"), is_ring(found, book, "a"))

    def test_other_rings(self):
        ring = ("r", "all")
        for sides in (["all"] * 3, ["b", "b", "b"], ["all", "z", "z"], ["z", "all", "b"]):
            ways = [[("r", sides[0])], [("r", sides[1])] * 2, [("r", sides[2])]]
            found = Ring(("and", "a", "z"), *ways)
            self.assertIs(found.shows(RA, "a"), is_ring(found, RA, "a"))
        self.assertTrue(Ring("a", [ring], [ring] * 5, [ring] * 3).shows(RA, "a"))
        self.assertTrue(Ring("a", ([ring]), (ring, ring), ()).shows(RA, "a"))
        self.assertEqual(Ring("a", (ring,), (ring, ring), ()).ring, [ring, ring])

    def test_altered(self):
        book = [("within", ("and", "b", ("some", "r", "a")), "c"), ("within", ("some", "s", "c"), "a"),
                ("within", ("and", "b", "d"), "none")]
        found = questions(book, ("some", "t", "a"))
        self.assertTrue(is_ring(found, book, ("some", "t", "a")))
        altered = [Ring("all", found.low, found.ring, found.high), Ring("d", found.low, found.ring, found.high),
                   Ring(found.concept, found.low, [], found.high), Ring(found.concept, found.low, found.ring, []),
                   Ring(found.concept, [], found.ring, found.high), Ring("none", found.low, found.ring, found.high)]
        for at, way in enumerate((found.low, found.ring, found.high)):
            for place, (role, side) in enumerate(way):
                for step in [("r", side), ("s", side), ("t", side), ("z", side), (role, "all"), (role, "b"), (role, "a"), (role, "c"),
                             (role, "d"), (role, "none"), (role, ("some", "t", "a")), (role, somes(1, "none"))]:
                    ways = [list(one) for one in (found.low, found.ring, found.high)]
                    ways[at][place] = step
                    altered.append(Ring(found.concept, *ways))
                ways = [list(one) for one in (found.low, found.ring, found.high)]
                del ways[at][place]
                altered.append(Ring(found.concept, *ways))
        for one in altered:
            self.assertIs(one.shows(book, ("some", "t", "a")), is_ring(one, book, ("some", "t", "a")))
        self.assertFalse(all(one.shows(book, ("some", "t", "a")) for one in altered))
        self.assertFalse(found.shows(book, ("some", "t", "b")))
        self.assertFalse(found.shows([], ("some", "t", "a")))

    def test_by_chance(self):
        for seed in range(150):
            chance = Chance(seed)
            book, target = chance.book(5), chance.concept(1, False)
            ways = [[(chance.random.choice("rs"), chance.concept(1, seed % 20 == 0)) for _ in range(chance.random.randint(0, 2))]
                    for _ in range(3)]
            found = Ring(chance.concept(1, False), *ways)
            self.assertIs(found.shows(book, target), is_ring(found, book, target))

    def test_new_each_time(self):
        found = questions(RA, "a")
        before = copy.deepcopy(found)
        found.low.append("spoilt")
        found.ring.clear()
        found.high.append("spoilt")
        self.assertEqual(questions(RA, "a"), before)
        self.assertNotEqual(found, before)
        self.assertNotEqual(Ring("a", [], [], []), Exact("a", []))
        ways = [("r", "all")], [("s", "all")], [("t", "all")]
        self.assertEqual(Ring("a", *ways), Ring("a", *[tuple(way) for way in ways]))
        self.assertNotEqual(Ring("a", *ways), Ring("b", *ways))
        for at in range(3):
            self.assertNotEqual(Ring("a", *ways), Ring("a", *ways[:at], [], *ways[at + 1:]))


class Refusals(unittest.TestCase):
    def test_in_order(self):
        for function in (questions, Exact([], []).shows, Ring("a", [], [], []).shows):
            for bad in [None, 1, True, "a", {}, [None], [("within", "a", ("and", "a"))]]:
                with self.assertRaises(BadBook):
                    function(bad, None)
            for bad in [*BAD_CONCEPTS, *WITH_NONE]:
                with self.assertRaises(BadConcept):
                    function(RA, bad)


if __name__ == "__main__":
    unittest.main()
