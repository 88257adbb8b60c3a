"""[1] What holds for all functions and all evidence."""

import copy
import unittest

from conceptworlds import books, concepts, following, kinds, leanest, standings, taking, toldworlds, wordrules, worlds
from conceptworlds.errors import BadBook, BadConcept, BadThing, BadWords, BadWorld, ConceptError
from conceptworlds.following import Fails, Follows
from conceptworlds.taking import Apart, TakenIn
from conceptworlds.wordrules import WorldRules
from conceptworlds.worlds import World

WORLD = World([("a",), ("a", "b"), ()], [(0, "r", 1), (1, "r", 2), (1, "s", 1)])
BOOK = [("within", "a", ("some", "r", "b")), ("passes", "r"), ("below", "s", "r"), ("within", ("and", "b", "c"), "none")]
WORDS = ("a", "b"), ("r", "s")
CONCEPT = ("and", "a", ("some", "r", "b"))

# Each function with arguments that are right.
CALLS = [
    (concepts.parts, (CONCEPT,)), (concepts.words_in, (CONCEPT, "a")), (worlds.product, (WORLD, WORLD)),
    (WORLD.things_in, (CONCEPT,)), (WORLD.names, ()), (WORLD.edges, ()), (WORLD.words, ()),
    (taking.compare, (WORLD, 0, WORLD, 1, WORDS)), (taking.compare, (WORLD, 1, WORLD, 0, WORDS)),
    (leanest.classes, (WORLD,)), (leanest.leanest, (WORLD,)), (books.words_of, (BOOK,)), (books.under, (BOOK, "s", "r")),
    (books.broken_rules, (BOOK, WORLD)), (books.closed, (BOOK, WORLD)), (following.judge, (BOOK, "a", CONCEPT)),
    (following.judge, (BOOK, CONCEPT, "c")), (following.follows, (BOOK, "a", CONCEPT)), (toldworlds.terms, (BOOK, CONCEPT)),
    (toldworlds.told_world, (BOOK, CONCEPT)), (kinds.kind, (BOOK, CONCEPT, "c")), (kinds.all_kinds, (BOOK, WORDS)),
    (standings.standing, (BOOK, BOOK[1:], WORDS, CONCEPT)), (standings.has_loss, (BOOK, BOOK[1:], WORDS, CONCEPT)),
    (wordrules.rules_of, (WORLD, WORDS)), (wordrules.extents, (WORLD, WORDS)),
]


def spoil(found):
    """Changes each list in what a function has returned."""
    if isinstance(found, (list, tuple)):
        for one in found:
            spoil(one)
    if isinstance(found, list):
        found.append("spoilt")
    for attribute in ("pairs", "steps", "rules", "concepts"):
        if hasattr(found, attribute):
            spoil(getattr(found, attribute))
    if isinstance(found, World):
        spoil(found.names())
        spoil(found.edges())


class Conventions(unittest.TestCase):
    def test_arguments_stay_and_lists_are_new(self):
        for function, arguments in CALLS:
            before = copy.deepcopy(arguments)
            first = function(*arguments)
            self.assertEqual(arguments, before)
            kept = copy.deepcopy(first)
            spoil(first)
            self.assertEqual(arguments, before)
            self.assertEqual(function(*arguments), kept, function)

    def test_books_may_be_tuples(self):
        for function, arguments in CALLS:
            others = [tuple(one) if isinstance(one, list) else one for one in arguments]
            self.assertEqual(function(*others), function(*arguments))

    def test_evidence_is_equal_by_class_and_attributes(self):
        made = [lambda: TakenIn([(0, 0)]), lambda: Apart("a"), lambda: Follows([("a", "a", "same", ())]),
                lambda: Fails(World([("a",)], []), 0), lambda: WorldRules([("passes", "r")], ["all"]),
                lambda: TakenIn([]), lambda: Follows([]), lambda: WorldRules([], [])]
        for at, one in enumerate(made):
            for place, other in enumerate(made):
                self.assertIs(one() == other(), at == place)
                self.assertIs(one() != other(), at != place)

    def test_shows_does_not_change_evidence(self):
        for evidence, arguments in [
                (taking.compare(WORLD, 0, WORLD, 1, WORDS), (WORLD, 0, WORLD, 1, WORDS)),
                (taking.compare(WORLD, 1, WORLD, 0, WORDS), (WORLD, 1, WORLD, 0, WORDS)),
                (following.judge(BOOK, "a", CONCEPT), (BOOK, "a", CONCEPT)),
                (following.judge(BOOK, CONCEPT, "c"), (BOOK, CONCEPT, "c")),
                (wordrules.rules_of(WORLD, WORDS), (WORLD, WORDS))]:
            before = copy.deepcopy(evidence)
            self.assertIs(evidence.shows(*arguments), True)
            self.assertEqual(evidence, before)

    def test_refused_calls_change_nothing(self):
        world, book = World([("a",)], [(0, "r", 0)]), [("passes", "r"), ("passes", 1)]
        evidence = TakenIn([(0, 0)])
        for error, call in [
                (BadConcept, lambda: world.things_in("A")), (BadBook, lambda: books.closed(book, world)),
                (BadThing, lambda: evidence.shows(world, 1, world, 0, ((), ()))),
                (BadWords, lambda: wordrules.rules_of(world, ((), ("r", "r")))),
                (BadWorld, lambda: World([("a",)], [(0, "r", 1)]))]:
            with self.assertRaises(error) as caught:
                call()
            self.assertIsInstance(caught.exception, ConceptError)
        self.assertEqual(world, World([("a",)], [(0, "r", 0)]))
        self.assertEqual(book, [("passes", "r"), ("passes", 1)])
        self.assertEqual(evidence, TakenIn([(0, 0)]))

    def test_values_of_any_kind_are_refused(self):
        odd = [None, True, False, 0, 7, -1, 10 ** 30, "", "A", b"a", (), [], {}, object(), ConceptError, len, (None,) * 3,
               ("and", object(), "a"), ("some", "r", {}), [[]], ({}, {}), ([], []), ((1,), (2,)), range(3)]
        for value in odd:
            with self.assertRaises(BadConcept):
                concepts.text(value)
            with self.assertRaises(BadWords):
                wordrules.extents(WORLD, value)
            with self.assertRaises(BadWorld):
                leanest.classes(value)
            with self.assertRaises(BadWorld):
                World(value, [])
            if value not in (0,) or isinstance(value, bool):
                with self.assertRaises(BadThing):
                    taking.compare(WORLD, 0, WORLD, value, WORDS)
            self.assertIs(books.is_rule(value), False)
            if value not in ((), []):
                with self.assertRaises(BadBook):
                    books.words_of(value)


if __name__ == "__main__":
    unittest.main()
