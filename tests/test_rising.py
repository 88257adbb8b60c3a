"""[16] Steps up, ranks, what is above, ladders."""

import copy
import unittest

from conceptworlds.concepts import text
from conceptworlds.errors import BadConcept, NotWithin, TooLarge
from conceptworlds.plain import plainly_within
from conceptworlds.reduced import reduced
from conceptworlds.rising import Ladder, above, ladder, rank, steps_up
from tests.support import OTHERS, Chance, nested, rename, small_concepts, somes
from tests.test_plain import BAD_CONCEPTS, WITH_NONE


def names(many):
    """The and of so many names, or the name alone."""
    told = ["".join(pair) for pair in zip("abcdefghijklmnopqrstuvwxyz" * 3, "a" * 26 + "b" * 26 + "c" * 26)][:many]
    return ("and", *sorted(told)) if many > 1 else told[0]


class Steps(unittest.TestCase):
    def test_ordinary(self):
        self.assertEqual(steps_up("all"), [])
        self.assertEqual(steps_up(("and", "all", "all")), [])
        self.assertEqual(steps_up("a"), ["all"])
        self.assertEqual(steps_up(("some", "r", "all")), ["all"])
        self.assertEqual(steps_up(("some", "r", "a")), [("some", "r", "all")])
        self.assertEqual(steps_up(("and", "b", "a", "b")), ["a", "b"])
        self.assertEqual(steps_up(("some", "r", ("and", "a", "b"))), [("and", ("some", "r", "a"), ("some", "r", "b"))])
        self.assertEqual(steps_up(("and", "a", ("some", "r", "a"))), [("and", "a", ("some", "r", "all")), ("some", "r", "a")])
        self.assertEqual(steps_up(("and", ("some", "r", "a"), ("some", "r", "b"))), [("some", "r", "a"), ("some", "r", "b")])
        self.assertEqual(steps_up(("and", ("some", "r", "all"), ("some", "r", "a"), "r")),
                         [("and", "r", ("some", "r", "all")), ("some", "r", "a")])

    def test_directly_above_among_small_ones(self):
        small = sorted({reduced(one) for one in small_concepts((("a", "b"), ("r",)), 4)}, key=text)
        for concept in [one for one in small if rank(one) < 9][:60]:
            upper = [one for one in small if one != concept and plainly_within(concept, one)]
            direct = [one for one in upper if not any(other != one and plainly_within(other, one) for other in upper)]
            found = steps_up(concept)
            self.assertEqual([one for one in found if one in small], [one for one in direct if one in found])
            for one in direct:
                self.assertTrue(one in found or any(plainly_within(other, one) for other in found))
            for one in found:
                self.assertEqual(rank(one) + 1, rank(concept))

    def test_by_chance(self):
        for seed in range(120):
            chance = Chance(seed)
            concept = chance.concept(3, False)
            found = steps_up(concept)
            self.assertEqual([text(one) for one in found], sorted({text(one) for one in found}))
            for one in found:
                self.assertEqual(reduced(one), one)
                self.assertTrue(plainly_within(concept, one) and not plainly_within(one, concept))
            for one, other in [(one, other) for one in found for other in found if one != other]:
                self.assertFalse(plainly_within(one, other))
            for other in [chance.concept(2, False) for _ in range(20)]:
                if plainly_within(concept, other) and not plainly_within(other, concept):
                    self.assertTrue(any(plainly_within(one, other) for one in found))
            renamed = [reduced(rename(one, OTHERS)) for one in found]
            self.assertEqual(sorted(renamed, key=text), steps_up(rename(concept, OTHERS)))

    def test_deep(self):
        self.assertEqual(steps_up(somes(100)), [somes(100, "all")])
        self.assertEqual(len(steps_up(somes(60, names(8)))), 1)
        self.assertEqual(len(steps_up(names(50))), 50)


class Ranks(unittest.TestCase):
    def test_ordinary(self):
        self.assertEqual([rank("all"), rank("a"), rank(("some", "r", "all")), rank(("some", "r", "a"))], [0, 1, 1, 2])
        self.assertEqual(rank(("and", "a", "b", ("some", "r", "a"), ("some", "s", "all"))), 5)
        self.assertEqual(rank(somes(2, ("and", "a", "b"))), 6)

    def test_limit(self):
        self.assertEqual(rank(names(60)), 60)
        self.assertEqual(rank(somes(60, "all")), 60)
        self.assertEqual(rank(("and", somes(30), names(29))), 60)
        self.assertEqual(rank(("and", names(52), somes(1, names(3)))), 60)
        for concept in [names(61), somes(60), somes(61, "all"), ("and", somes(30), names(30)), names(78), somes(1, names(6)),
                        ("and", names(53), somes(1, names(3))), somes(40, names(12)), somes(100), somes(2, names(4))]:
            with self.assertRaises(TooLarge):
                rank(concept)

    def test_above(self):
        self.assertEqual(above("all"), ["all"])
        self.assertEqual(above("a"), ["a", "all"])
        self.assertEqual(above(("and", "b", "a")), ["a", ("and", "a", "b"), "all", "b"])
        self.assertEqual(len(above(names(7))), 128)
        self.assertEqual(len(above(somes(98, names(2)))), 200)
        self.assertEqual(len(above(("and", somes(23), somes(7, "all", "s")))), 25 * 8)
        self.assertEqual(len(above(("and", somes(1), somes(65, "all", "s")))), 3 * 66)
        with self.assertRaises(TooLarge):
            above(("and", somes(1), somes(66, "all", "s")))
        for concept in [names(8), somes(99, names(2)), ("and", somes(24), somes(7, "all", "s")), somes(30, names(12)), names(70)]:
            with self.assertRaises(TooLarge):
                above(concept)

    def test_above_by_chance(self):
        counted = 0
        for seed in range(150):
            concept = Chance(seed).concept(3, False)
            found, at = [reduced(concept)], 0
            while at < len(found) <= 200:
                found += [one for one in steps_up(found[at]) if one not in found]
                at += 1
            if len(found) > 200:
                with self.assertRaises(TooLarge):
                    above(concept)
                continue
            counted += 1
            self.assertEqual(above(concept), sorted(found, key=text))
            if len(ladder(concept, "all").concepts) > 61:
                with self.assertRaises(TooLarge):
                    rank(concept)
            else:
                self.assertEqual(rank(concept), len(ladder(concept, "all").concepts) - 1)
            self.assertEqual(len(above(rename(concept, OTHERS))), len(found))
        self.assertGreater(counted, 100)


class Ladders(unittest.TestCase):
    def test_ordinary(self):
        self.assertEqual(ladder("all", "all"), Ladder(["all"]))
        self.assertEqual(ladder(("and", "b", "a"), ("and", "a", "b", "all")), Ladder([("and", "a", "b")]))
        self.assertEqual(ladder("a", "all"), Ladder(["a", "all"]))
        self.assertEqual(ladder(("and", "b", "a"), "b").concepts, [("and", "a", "b"), "b"])
        self.assertEqual(len(ladder(somes(100), "all").concepts), 102)
        self.assertEqual(len(ladder(somes(1, names(6)), "all").concepts), 65)

    def test_by_chance(self):
        for seed in range(120):
            chance = Chance(seed)
            concept, other = chance.concept(2, False), chance.concept(2, False)
            if not plainly_within(concept, other):
                concept = ("and", concept, other)
            found = ladder(concept, other)
            self.assertTrue(found.shows(concept, other))
            self.assertEqual((found.concepts[0], found.concepts[-1]), (reduced(concept), reduced(other)))
            for lower, upper in zip(found.concepts, found.concepts[1:]):
                self.assertIn(upper, steps_up(lower))
            self.check_altered(found, concept, other)

    def check_altered(self, found, concept, other):
        rungs = found.concepts
        for at in range(len(rungs)):
            self.assertFalse(Ladder(rungs[:at] + rungs[at + 1:]).shows(concept, other))
            self.assertFalse(Ladder([*rungs[:at], rungs[at], *rungs[at:]]).shows(concept, other))
            same = ("and", rungs[at], rungs[at])
            self.assertFalse(Ladder([*rungs[:at], same, *rungs[at + 1:]]).shows(concept, other))
            self.assertFalse(Ladder([*rungs[:at], "none", *rungs[at + 1:]]).shows(concept, other))
        self.assertFalse(Ladder([]).shows(concept, other))
        self.assertFalse(Ladder(rungs + ["all"]).shows(concept, other))
        self.assertFalse(Ladder([("and", rungs[0], "zz"), *rungs]).shows(concept, other))
        if len(rungs) > 2:
            self.assertFalse(Ladder(rungs[::-1]).shows(concept, other))

    def test_other_ways(self):
        concept = ("and", "a", "b", "c")
        for way in [["a", ("and", "a", "b")], ["a", ("and", "a", "c")], ["b", ("and", "b", "c")], ["c", ("and", "b", "c")]]:
            self.assertTrue(Ladder((concept, *way[::-1], "all")).shows(concept, "all"))
        self.assertFalse(Ladder([concept, ("and", "a", "b"), "c", "all"]).shows(concept, "all"))
        self.assertFalse(Ladder([concept, "a", "all"]).shows(concept, "all"))
        self.assertFalse(Ladder([concept, ("and", "b", "a"), "a", "all"]).shows(concept, "all"))

    def test_evidence_is_new(self):
        found = ladder("a", "all")
        before = copy.deepcopy(found)
        found.concepts.append("b")
        self.assertEqual(ladder("a", "all"), before)
        self.assertNotEqual(found, before)
        self.assertEqual(Ladder(("a", "all")).concepts, ["a", "all"])


class Refusals(unittest.TestCase):
    def test_concepts(self):
        for bad in [*BAD_CONCEPTS, *WITH_NONE]:
            for function in (steps_up, rank, above):
                with self.assertRaises(BadConcept):
                    function(bad)
            for function in (ladder, Ladder(["a"]).shows):
                for pair in [(bad, "a"), ("a", bad), (bad, bad)]:
                    with self.assertRaises(BadConcept):
                        function(*pair)

    def test_not_within(self):
        for pair in [("a", "b"), ("all", "a"), (("and", ("some", "r", "a"), ("some", "r", "b")), ("some", "r", nested(1)))]:
            for function in (ladder, Ladder([pair[0], pair[1]]).shows):
                with self.assertRaises(NotWithin):
                    function(*pair)


if __name__ == "__main__":
    unittest.main()
