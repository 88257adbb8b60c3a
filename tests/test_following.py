"""[7] Derivations, and worlds that refute."""

import itertools
import unittest

from conceptworlds.books import broken_rules, closed
from conceptworlds.errors import BadBook, BadConcept
from conceptworlds.following import Fails, Follows, follows, judge
from conceptworlds.worlds import World
from tests.support import Chance, nested, slow_keeps, slow_things, somes

BOOK = [("within", "a", "b"), ("passes", "r"), ("below", "r", "s"), ("itself", "t"), ("within", "b", ("and", "c", "d"))]
A_R, B_R = ("some", "r", "a"), ("some", "r", "b")

# For each reason: steps that stand before, a right step, and steps that are not right in its place.
STEPS = {
    "same": ([], ("a", "a", "same", ()),
             [("a", "b", "same", ()), ("a", "a", "same", (0,)), ("b", "a", "same", ())]),
    "all": ([], ("a", "all", "all", ()),
            [("a", "b", "all", ()), ("a", "all", "all", (0,)), ("a", "none", "all", ()), ("all", "a", "all", ())]),
    "none": ([], ("none", "a", "none", ()),
             [("a", "a", "none", ()), ("none", "a", "none", (0,)), ("all", "a", "none", ()), ("a", "none", "none", ())]),
    "part": ([], (("and", "a", A_R, "c"), A_R, "part", ()),
             [(("and", "a", A_R, "c"), "b", "part", ()), (("and", "a", A_R, "c"), A_R, "part", (0,)), (A_R, "a", "part", ()),
              (("and", "a", ("and", "b", "c")), "b", "part", ()), ("a", "a", "part", ()),
              (("and", "a", "b"), ("and", "a", "b"), "part", ()), ("a", ("and", "a", "b"), "part", ())]),
    "and": ([("a", "b", "rule", (0,)), ("a", "a", "same", ()), ("b", "b", "same", ())],
            ("a", ("and", "a", "b"), "and", (1, 0)),
            [("a", ("and", "a", "b"), "and", (0, 1)), ("a", ("and", "a", "b"), "and", (1,)),
             ("a", ("and", "a", "b"), "and", (1, 0, 0)), ("a", ("and", "a", "b"), "and", ()),
             ("a", ("and", "a", "b"), "and", (1, 2)), ("a", ("and", "a", "b"), "and", (1, 3)),
             ("a", ("and", "a", "b"), "and", (-2, 0)), ("b", ("and", "a", "b"), "and", (1, 0)),
             ("a", ("and", "a", "c"), "and", (1, 0)), ("a", "a", "and", ()), ("a", A_R, "and", (1,)),
             ("a", "b", "and", (0,)), ("a", "all", "and", ())]),
    "then": ([("a", "b", "rule", (0,)), ("b", ("and", "c", "d"), "rule", (4,)), ("b", "b", "same", ())],
             ("a", ("and", "c", "d"), "then", (0, 1)),
             [("a", ("and", "c", "d"), "then", (1, 0)), ("a", ("and", "c", "d"), "then", (0,)),
              ("a", ("and", "c", "d"), "then", ()), ("a", ("and", "c", "d"), "then", (0, 1, 1)),
              ("a", ("and", "c", "d"), "then", (0, 2)), ("a", ("and", "c", "d"), "then", (0, 3)),
              ("a", ("and", "c", "d"), "then", (-3, 1)), ("a", ("and", "c", "d"), "then", (0, -2)),
              ("a", "c", "then", (0, 1)), ("c", ("and", "c", "d"), "then", (0, 1)),
              ("a", ("and", "c", "d"), "then", (9, 1)), ("a", ("and", "c", "d"), "then", (2, 1))]),
    "rule": ([], ("b", ("and", "c", "d"), "rule", (4,)),
             [("b", ("and", "c", "d"), "rule", (0,)), ("b", ("and", "c", "d"), "rule", (5,)),
              ("b", ("and", "c", "d"), "rule", (-1,)), ("b", ("and", "c", "d"), "rule", ()),
              ("b", ("and", "c", "d"), "rule", (4, 4)), ("b", "c", "rule", (4,)), ("a", ("and", "c", "d"), "rule", (4,)),
              ("b", ("and", "d", "c"), "rule", (4,)), ("r", "s", "rule", (2,)), ("r", "r", "rule", (1,))]),
    "some": ([("a", "b", "rule", (0,)), ("b", "b", "same", ())], (A_R, B_R, "some", (0,)),
             [(A_R, B_R, "some", (1,)), (A_R, B_R, "some", (2,)), (A_R, B_R, "some", ()), (A_R, B_R, "some", (0, 0)),
              (A_R, ("some", "s", "b"), "some", (0,)), (B_R, A_R, "some", (0,)), (A_R, "b", "some", (0,)),
              ("a", "b", "some", (0,)), (A_R, B_R, "some", (-2,)), (("and", "r", "a"), ("and", "r", "b"), "some", (0,))]),
    "below": ([], (A_R, ("some", "s", "a"), "below", ()),
              [(A_R, ("some", "s", "b"), "below", ()), (A_R, ("some", "s", "a"), "below", (2,)),
               (("some", "s", "a"), A_R, "below", ()), (A_R, A_R, "below", ()), (A_R, ("some", "t", "a"), "below", ()),
               ("r", "s", "below", ()), (("and", "r", "a"), ("and", "s", "a"), "below", ())]),
    "passes": ([], (("some", "r", A_R), A_R, "passes", ()),
               [(("some", "r", A_R), A_R, "passes", (1,)), (("some", "r", A_R), B_R, "passes", ()),
                (("some", "s", A_R), A_R, "passes", ()), (("some", "r", ("some", "s", "a")), A_R, "passes", ()),
                (("some", "s", ("some", "s", "a")), ("some", "s", "a"), "passes", ()), (A_R, "a", "passes", ()),
                (A_R, A_R, "passes", ()), (A_R, ("some", "r", A_R), "passes", ())]),
    "itself": ([], ("a", ("some", "t", "a"), "itself", ()),
               [("a", ("some", "t", "b"), "itself", ()), ("a", ("some", "t", "a"), "itself", (3,)),
                ("a", A_R, "itself", ()), ("a", "a", "itself", ()), (("some", "t", "a"), "a", "itself", ()),
                ("t", ("and", "t", "t"), "itself", ())]),
    "empty": ([], (("some", "r", "none"), "none", "empty", ()),
              [(("some", "r", "none"), "none", "empty", (0,)), (A_R, "none", "empty", ()),
               (("some", "r", "none"), "a", "empty", ()), (("and", "r", "none"), "none", "empty", ()),
               ("none", "none", "empty", ()), (("some", "r", "all"), "none", "empty", ())]),
}


def slow_right(book, step, before):
    """Whether a step is right, written down again from the document."""
    first, second, word, numbers = step
    if word != "rule" and any(not 0 <= number < len(before) for number in numbers):
        return False
    said = [] if word == "rule" else [before[number][:2] for number in numbers]
    some = [isinstance(one, tuple) and one[0] == "some" for one in (first, second)]
    both_and = [isinstance(one, tuple) and one[0] == "and" for one in (first, second)]
    return {
        "same": lambda: first == second and not numbers,
        "all": lambda: second == "all" and not numbers,
        "none": lambda: first == "none" and not numbers,
        "part": lambda: both_and[0] and second in first[1:] and not numbers,
        "and": lambda: both_and[1] and said == [(first, part) for part in second[1:]],
        "then": lambda: len(said) == 2 and said[0][0] == first and said[0][1] == said[1][0] and said[1][1] == second,
        "rule": lambda: [book[number] for number in numbers] == [("within", first, second)],
        "some": lambda: all(some) and first[1] == second[1] and said == [(first[2], second[2])],
        "below": lambda: all(some) and first[2] == second[2] and ("below", first[1], second[1]) in book and not numbers,
        "passes": lambda: some[1] and ("passes", second[1]) in book and first == ("some", second[1], second)
        and not numbers,
        "itself": lambda: some[1] and ("itself", second[1]) in book and second[2] == first and not numbers,
        "empty": lambda: some[0] and first[2] == "none" and second == "none" and not numbers,
    }[word]()


class Shows(unittest.TestCase):
    def test_each_reason(self):
        self.assertEqual(len(STEPS), 12)
        for word, (before, right, wrong) in STEPS.items():
            self.assertEqual(right[2], word)
            self.assertIs(Follows([*before, right]).shows(BOOK, right[0], right[1]), True, word)
            self.assertIs(Follows([*before, right]).shows(tuple(BOOK), right[0], right[1]), True, word)
            for step in wrong:
                self.assertIs(Follows([*before, step]).shows(BOOK, step[0], step[1]), False, step)
                # what is wrong stays wrong behind and before other steps
                later = [*before, step, ("a", "all", "all", ())]
                self.assertIs(Follows(later).shows(BOOK, "a", "all"), False, step)

    def test_other_words(self):
        for word in ["within", "steps", "and", "some", "then", "rule"]:
            self.assertIs(Follows([("a", "b", word, ())]).shows(BOOK, "a", "b"), False)

    def test_rules_that_are_missing(self):
        for word, index in [("rule", 4), ("below", 2), ("passes", 1), ("itself", 3)]:
            right = STEPS[word][1]
            book = BOOK[:index] + [("within", "x", "y")] + BOOK[index + 1:]
            self.assertIs(Follows([right]).shows(BOOK, right[0], right[1]), True)
            self.assertIs(Follows([right]).shows(book, right[0], right[1]), False)

    def test_last_step(self):
        steps = [("a", "a", "same", ()), ("a", "all", "all", ())]
        self.assertIs(Follows(steps).shows([], "a", "all"), True)
        for concepts in [("a", "a"), ("b", "all"), ("all", "a"), ("a", "none")]:
            self.assertIs(Follows(steps).shows([], *concepts), False)
        self.assertIs(Follows([]).shows([], "a", "a"), False)
        self.assertIs(Follows(steps + steps).shows([], "a", "all"), True)

    def test_numbers_of_later_steps(self):
        steps = [("a", ("and", "a", "b"), "and", (1, 2)), ("a", "a", "same", ()), ("a", "b", "rule", (0,))]
        self.assertIs(Follows(steps).shows(BOOK, "a", "b"), False)
        self.assertIs(Follows(steps[1:] + [("a", ("and", "a", "b"), "and", (0, 1))]).shows(BOOK, "a", ("and", "a", "b")),
                      True)
        self.assertIs(Follows([("a", "b", "then", (0, 0))]).shows(BOOK, "a", "b"), False)

    def test_fails(self):
        world = World([("a", "b", "c", "d"), (), ("b", "c", "d")],
                      sorted([(x, "t", x) for x in range(3)] + [(0, "r", 1), (0, "s", 1)]))
        self.assertIs(Fails(world, 2).shows(BOOK, "b", "a"), True)
        for thing in [0, 1, 3, -1, 100, True]:
            self.assertIs(Fails(world, thing).shows(BOOK, "b", "a"), False, thing)
        self.assertIs(Fails(world, 0).shows(BOOK, ("some", "s", "all"), ("some", "r", "a")), True)
        broken = [World([("a",), (), ("b", "c", "d")], world.edges()),
                  World(world.names(), [edge for edge in world.edges() if edge != (0, "s", 1)]),
                  World(world.names(), [edge for edge in world.edges() if edge != (1, "t", 1)]),
                  World(world.names(), sorted(world.edges() + [(1, "r", 2), (1, "s", 2)]))]
        for other in broken:
            self.assertTrue(broken_rules(BOOK, other))
            self.assertIs(Fails(other, 2).shows(BOOK, "b", "a"), False)

    def test_equality_and_copies(self):
        steps = [("a", "a", "same", ())]
        found = Follows(steps)
        self.assertTrue(found == Follows(tuple(steps)))
        self.assertTrue(found != Follows([]))
        self.assertTrue(found != Fails(World([()], []), 0))
        steps.clear()
        self.assertEqual(found.steps, [("a", "a", "same", ())])
        self.assertIsInstance(Follows(()).steps, list)
        world = World([()], [])
        self.assertTrue(Fails(world, 0) == Fails(World([()], []), 0))
        self.assertFalse(Fails(world, 0) != Fails(world, 0))
        self.assertTrue(Fails(world, 0) != Fails(world, 1))
        self.assertTrue(Fails(world, 0) != Fails(World([("a",)], []), 0))
        self.assertTrue(Fails(world, 0).world is world)
        found.steps.append(("a", "b", "same", ()))
        self.assertIs(found.shows([], "a", "a"), False)


class Judging(unittest.TestCase):
    def check(self, book, concept, other, told):
        found = judge(book, concept, other)
        self.assertIs(follows(book, concept, other), told, (book, concept, other))
        self.assertIsInstance(found, Follows if told else Fails)
        self.assertIs(found.shows(book, concept, other), True)
        if told:
            for at, step in enumerate(found.steps):
                self.assertTrue(slow_right(book, step, found.steps[:at]), step)
            self.assertEqual(found.steps[-1][:2], (concept, other))
        else:
            self.assertTrue(all(slow_keeps(found.world, rule) for rule in book))
            self.assertIn(found.thing, slow_things(found.world, concept))
            self.assertNotIn(found.thing, slow_things(found.world, other))
        return found

    def test_empty_book(self):
        for book in ([], ()):
            for concept, other, told in [
                    ("a", "a", True), ("a", "all", True), ("all", "a", False), ("none", "a", True), ("a", "none", False),
                    (("and", "a", "b"), ("and", "b", "a"), True), ("a", ("and", "a", "a"), True),
                    (A_R, ("some", "r", "all"), True), (("some", "r", "none"), "b", True), ("all", "none", False),
                    (("some", "r", ("and", "a", "b")), ("and", A_R, B_R), True), (("and", A_R, B_R),
                     ("some", "r", ("and", "a", "b")), False), (A_R, ("some", "s", "a"), False), ("r", A_R, False),
                    (("and", "a", ("some", "r", ("some", "s", "none"))), "none", True)]:
                self.check(book, concept, other, told)

    def test_role_rules(self):
        book = [("below", "p", "q"), ("below", "q", "r"), ("below", "r", "q"), ("passes", "q"), ("itself", "p")]
        for concept, other, told in [
                (("some", "p", "a"), ("some", "r", "a"), True), (("some", "r", "a"), ("some", "q", "a"), True),
                (("some", "q", "a"), ("some", "p", "a"), False), ("a", ("some", "r", "a"), True),
                (somes(4, role="p"), ("some", "r", "a"), True), (("some", "p", ("some", "r", "a")), ("some", "q", "a"), True),
                ("all", somes(3, "all", "q"), True), (("some", "p", "a"), "a", False),
                (("some", "p", ("some", "p", "a")), ("some", "p", "a"), False), ("all", ("some", "x", "all"), False)]:
            self.check(book, concept, other, told)

    def test_two_rules_together(self):
        book = [("within", "a", ("some", "r", "b")), ("within", ("and", ("some", "s", "b"), "c"), "d"),
                ("below", "r", "s"), ("within", ("some", "s", ("and", "b", "e")), "none")]
        self.check(book, ("and", "a", "c"), "d", True)
        self.check(book, "a", "d", False)
        self.check(book + [("within", "b", "e")], "a", "none", True)
        self.check(book + [("within", "b", "e")], "a", "x", True)
        self.check(book + book, ("and", "c", "a", "c"), ("and", "d", "d", "all"), True)

    def test_roles_over_passing_ones(self):
        rules = [("within", "x", ("some", "p", "y")), ("within", "y", ("some", "p", "d")), ("passes", "p"),
                 ("below", "p", "s"), ("within", ("some", "s", "d"), "z")]
        for book in (rules, rules[::-1], rules[2:] + rules[:2]):
            self.check(book, "x", "z", True)
            self.check(book, "x", ("some", "s", "d"), True)
            self.check([rule for rule in book if rule[0] != "passes"], "x", "z", False)
            self.check([rule for rule in book if rule[0] != "below"], "x", "z", False)
        longer = rules[:4] + [("within", "d", ("some", "q", "e")), ("below", "q", "p"), ("below", "s", "t")]
        self.check(longer, "x", ("some", "t", ("and", "e", "all")), True)
        self.check(longer, "x", ("some", "q", "e"), False)

    def test_no_world(self):
        for book in ([("within", "all", "none")], [("within", "all", "a"), ("within", ("some", "r", "a"), "none"),
                                                   ("itself", "r")]):
            for concept, other in [("all", "none"), ("x", "y"), (A_R, B_R), ("none", "all")]:
                self.check(book, concept, other, True)

    def test_nothing(self):
        book = [("within", "a", ("some", "r", "c")), ("within", "c", "d"), ("within", "c", "e"),
                ("within", ("and", "d", "e"), "none")]
        self.check(book, "a", "none", True)
        self.check(book, ("some", "q", ("and", "b", "a")), "z", True)
        self.check(book, "b", "none", False)

    def test_endless_worlds(self):
        # each thing has one behind it, so the world that refutes has a ring
        book = [("within", "a", ("some", "r", ("and", "a", "b"))), ("within", "all", ("some", "s", "all"))]
        self.check(book, "a", somes(20, "b"), True)
        self.check(book, "a", "b", False)
        self.check(book, "b", somes(5, "all", "s"), True)

    def test_long_chains(self):
        words = ["x" + chr(97 + at // 26) + chr(97 + at % 26) for at in range(300)]
        book = [("within", one, other) for one, other in zip(words, words[1:])]
        self.check(book, words[0], words[-1], True)
        self.check(book, words[1], words[0], False)
        book = [("within", one, ("some", "r", other)) for one, other in zip(words, words[1:])] + [("passes", "r")]
        self.check(book, words[0], ("some", "r", words[-1]), True)
        self.check(book[:-1], words[0], ("some", "r", words[-1]), False)
        roles = [("below", one, other) for one, other in zip(words, words[1:])] + [("below", words[-1], words[0])]
        self.check(roles, ("some", words[7], "a"), ("some", words[6], "a"), True)

    def test_deep_concepts(self):
        self.check([], somes(100), somes(100, "all"), True)
        self.check([], somes(100, "all"), somes(100), False)
        self.check([], somes(99), somes(100), False)
        self.check([("passes", "r")], somes(100), ("some", "r", "a"), True)
        self.check([], nested(100), "a", True)
        self.check([], "a", nested(100), False)
        self.check([("itself", "r")], "a", somes(100), True)

    def test_by_chance(self):
        told = {True: 0, False: 0}
        for seed in range(250):
            chance = Chance(seed)
            book = chance.book(6)
            worlds = [closed(book, chance.world(3)) for _ in range(8)]
            worlds = [world for world in worlds if not broken_rules(book, world)]
            for _ in range(4):
                concept, other = chance.concept(3), chance.concept(2)
                found = follows(book, concept, other)
                told[found] += 1
                self.check(book, concept, other, found)
                for world in worlds if found else []:
                    self.assertTrue(slow_things(world, concept) <= slow_things(world, other))
        self.assertGreater(min(told.values()), 200)

    def test_all_worlds_of_two_things(self):
        places = [(x, "r", y) for x in range(2) for y in range(2)]
        rows = [(), ("a",), ("b",), ("a", "b")]
        worlds = [World([one, other], [edge for edge, told in zip(places, pick) if told])
                  for one in rows for other in rows for pick in itertools.product([False, True], repeat=4)]
        for seed in range(12):
            chance = Chance(seed, roles=("r",))
            book = chance.book(3)
            kept = [world for world in worlds if not broken_rules(book, world)]
            for _ in range(5):
                concept, other = chance.concept(2), chance.concept(2)
                if follows(book, concept, other):
                    for world in kept:
                        self.assertTrue(slow_things(world, concept) <= slow_things(world, other))


class Refusals(unittest.TestCase):
    def test_refusals(self):
        world = World([()], [])
        for function in (judge, follows, Follows([]).shows, Fails(world, 0).shows):
            for bad in [None, 1, True, {}, "a"]:
                with self.assertRaises(BadBook) as caught:
                    function(bad, None, None)
                self.assertIsNone(caught.exception.index)
            with self.assertRaises(BadBook) as caught:
                function([("passes", "r"), ("passes", 1)], "A", "a")
            self.assertEqual(caught.exception.index, 1)
            for bad in [None, 1, True, "A", "", ("and", "a"), ["some", "r", "a"], somes(101)]:
                for concepts in [(bad, "a"), ("a", bad), (bad, bad)]:
                    with self.assertRaises(BadConcept):
                        function([], *concepts)


if __name__ == "__main__":
    unittest.main()
