"""[17] Learning."""

import random
import unittest

from conceptworlds.concepts import is_concept, size
from conceptworlds.learning import learn
from conceptworlds.plain import plainly_within
from conceptworlds.reduced import plain_common, reduced
from tests.support import OTHERS, Chance, rename, somes


class Somebody:
    """Somebody who has a concept in mind, and counts the calls."""

    def __init__(self, mind, choose):
        self.mind = mind
        self.choose = choose
        self.asked = 0
        self.supposed = []
        self.greatest = 0

    def lies_within(self, concept):
        assert is_concept(concept)
        self.asked += 1
        return plainly_within(concept, self.mind)

    def counter(self, concept):
        assert is_concept(concept)
        self.supposed.append(concept)
        if plainly_within(concept, self.mind) and plainly_within(self.mind, concept):
            return None
        found = self.choose(concept, self.mind)
        assert plainly_within(found, concept) != plainly_within(found, self.mind)
        self.greatest = max(self.greatest, size(found))
        return found


def the_mind(concept, mind):
    """The concept in mind, where it is a counterexample, and otherwise the concept that is supposed."""
    return mind if not plainly_within(mind, concept) else concept


def ands_of(many, seed, depth=3):
    """A way to choose counterexamples that are ands of one and of so many others, in any order."""
    chance = Chance(seed, names=("a", "b", "c"))

    def choose(concept, mind):
        found = the_mind(concept, mind)
        for _ in range(many):
            both = [found, chance.concept(depth, False)]
            chance.random.shuffle(both)
            joint = ("and", *both)
            if is_concept(joint) and plainly_within(joint, concept) != plainly_within(joint, mind):
                found = joint
        return found

    return choose


class Learning(unittest.TestCase):
    def check(self, mind, choose):
        somebody = Somebody(mind, choose)
        self.assertEqual(learn(somebody.lies_within, somebody.counter), reduced(mind))
        count = size(reduced(mind))
        self.assertLessEqual(len(somebody.supposed), count + 2)
        self.assertLessEqual(somebody.asked, (count + 1) * (count + 1) * (somebody.greatest + 1))
        return somebody

    def test_minds(self):
        for mind in ["all", ("and", "all", "all"), "a", ("and", "b", "a", "b"), ("some", "r", "all"), somes(100),
                     ("and", ("some", "r", "all"), ("some", "r", "a")), ("and", "r", ("some", "r", "r")),
                     ("and", ("some", "r", "a"), ("some", "r", "b"), ("some", "s", ("and", "a", "b")))]:
            self.check(mind, the_mind)
            self.check(mind, ands_of(3, 1))

    def test_all(self):
        somebody = Somebody("all", lambda concept, mind: somes(50))
        self.assertEqual(learn(somebody.lies_within, somebody.counter), "all")
        self.assertLessEqual(somebody.asked, 51)
        self.assertLessEqual(len(somebody.supposed), 2)
        self.check("all", lambda concept, mind: "all")
        self.check("all", lambda concept, mind: ("and", "a", "b"))
        self.check("all", lambda concept, mind: "a")

    def test_by_chance(self):
        for seed in range(150):
            mind = Chance(seed, names=("a", "b", "c")).concept(seed % 4, False)
            for choose in (the_mind, ands_of(2, seed), ands_of(6, seed, 4)):
                somebody = self.check(mind, choose)
            renamed = rename(mind, OTHERS)
            self.assertEqual(reduced(rename(learn(somebody.lies_within, somebody.counter), OTHERS)), reduced(renamed))

    def test_step_by_step(self):
        pairs = [("some", "r", ("and", one, two)) for one, two in ["ab", "bc", "ca", "ad"]]
        mind = ("and", *pairs)

        def least(concept, told):
            if concept == "none":
                return ("some", "r", ("and", "a", "b", "c", "d"))
            rest = [one for one in pairs if not plainly_within(concept, one)]
            left = [one for one in pairs if one not in rest[:1]]
            lower = ("and", ("some", "r", ("and", "a", "b", "c", "d")), *left)
            return lower if plainly_within(lower, told) != plainly_within(lower, concept) else the_mind(concept, told)

        somebody = self.check(mind, least)
        self.assertGreater(len(somebody.supposed), 2)

    def test_specials_of_the_mind(self):
        for seed in range(60):
            chance = Chance(seed, names=("a", "b", "c"), roles=("r",))
            mind = ("and", *[("some", "r", chance.concept(2, False)) for _ in range(4)])

            def choose(concept, told):
                lowest = ("some", "r", ("and", "a", "b", "c", *[("some", "r", ("and", "a", "b", "c"))] * 2))
                for other in [lowest, ("and", lowest, *told[1:2]), ("and", lowest, *told[2:4])]:
                    if plainly_within(other, told) != plainly_within(other, concept):
                        return other
                return the_mind(concept, told)

            self.check(mind, choose)

    def test_counterexamples_in_turn(self):
        pairs = [("and", "a", "b"), ("and", "c", "d"), ("and", "e", "f"), ("and", "b", "c"), ("and", "d", "a")]
        for many in range(2, 6):
            mind = ("and", *[("some", "r", pair) for pair in pairs[:many]])
            lower = [("and", "all", *[("some", "r", pair) for pair in pairs[:many] if pair not in (one, other)], ("some", "r", ("and", one, other)))
                     for at, one in enumerate(pairs[:many]) for other in pairs[:at]]
            turn = []

            def choose(concept, told):
                turn.append(len(turn))
                for at in range(len(lower)):
                    found = lower[(at + len(turn)) % len(lower)]
                    if plainly_within(found, told) != plainly_within(found, concept):
                        return found
                return the_mind(concept, told)

            self.check(mind, choose)

    def test_large(self):
        rest = [("some", "r", Chance(seed, names=("a", "b", "c", "d")).concept(4, False)) for seed in range(250)]
        mind = ("and", "a", ("some", "r", ("and", "a", ("some", "s", "b"))), ("some", "s", "c"))

        def choose(concept, told):
            found = ["and", *rest, the_mind(concept, told), *rest[::-1]]
            random.Random(3).shuffle(rest)
            return tuple(found)

        somebody = self.check(mind, choose)
        self.assertGreater(somebody.greatest, 1000)
        self.assertLess(somebody.asked, 1000)

    def test_within_the_other_one_alone(self):
        def choose(concept, mind):
            if plainly_within(concept, mind):
                return the_mind(concept, mind)
            return concept
        self.check(("and", "a", ("some", "r", "b")), choose)

    def test_common_is_what_counts(self):
        self.assertEqual(plain_common(("and", "a", "b"), ("and", "b", "c")), "b")
        self.check("b", lambda concept, mind: ("and", "a", "b") if concept == "none" else ("and", "b", "c"))

    def test_errors_are_passed_on(self):
        class Stop(Exception):
            pass

        def stop(concept):
            raise Stop("enough")

        with self.assertRaises(Stop):
            learn(lambda concept: True, stop)
        somebody = Somebody(("and", "a", "b"), lambda concept, mind: ("and", "a", "b", "c"))
        with self.assertRaises(Stop):
            learn(stop, somebody.counter)
        with self.assertRaises(KeyError):
            learn(lambda concept: {}[concept], somebody.counter)
        late = []

        def counter(concept):
            late.append(concept)
            if len(late) == 2:
                raise ValueError("late")
            return "a" if concept == "none" else None

        with self.assertRaises(ValueError):
            learn(lambda concept: plainly_within(concept, "a"), counter)

    def test_what_is_handed_out_and_in(self):
        seen = []

        def counter(concept):
            seen.append(concept)
            return None if plainly_within("a", concept) and concept != "none" else ("and", "a", "a")

        self.assertEqual(learn(lambda concept: plainly_within(concept, "a"), counter), "a")
        self.assertEqual(learn(lambda concept: plainly_within(concept, "a"), counter), "a")
        self.assertEqual(seen[:len(seen) // 2], seen[len(seen) // 2:])


if __name__ == "__main__":
    unittest.main()
