"""[1] What holds for all functions and all evidence."""

import copy
import unittest

from conceptworlds import answering, books, cheapest, concepts, exploring, following, kinds, leanest, learning, missing
from conceptworlds import defining, examples, leasts, naming, patterns, reading, sharing, supposing, views, weaker
from conceptworlds import parts, plain, questions, reduced, rising, saying, standings, taking, toldworlds, wordrules, worlds
from conceptworlds.errors import BadBook, BadConcept, BadPrices, BadThing, BadWords, BadWorld, ConceptError, NotWithin, TooLarge
from conceptworlds.answering import Answers, Impossible
from conceptworlds.cheapest import Cheapest
from conceptworlds.defining import Between, NoneBetween, Said, Unsaid
from conceptworlds.desks import Desk
from conceptworlds.examples import Mixed, Separated
from conceptworlds.ideas import Idea
from conceptworlds.leasts import Endless, Least
from conceptworlds.following import Fails, Follows
from conceptworlds.missing import Missing
from conceptworlds.parts import Enough
from conceptworlds.plain import Mapped, Unmapped
from conceptworlds.questions import Exact, Ring
from conceptworlds.rising import Ladder
from conceptworlds.saying import Loses, Says
from conceptworlds.supposing import CanBe, CannotBe
from conceptworlds.taking import Apart, TakenIn
from conceptworlds.weaker import Weaker
from conceptworlds.wordrules import WorldRules
from conceptworlds.worlds import World

WORLD = World([("a",), ("a", "b"), ()], [(0, "r", 1), (1, "r", 2), (1, "s", 1)])
BOOK = [("within", "a", ("some", "r", "b")), ("passes", "r"), ("below", "s", "r"), ("within", ("and", "b", "c"), "none")]
WORDS = ("a", "b"), ("r", "s")
CONCEPT = ("and", "a", ("some", "r", "b"))
PRICES = {"a": 1, "b": 2, "c": 0, "r": 1, "s": 0}


def refute(concept, other):
    """An expert for the hidden world WORLD."""
    found = [thing for thing in WORLD.things_in(concept) if thing not in WORLD.things_in(other)]
    return (WORLD, found[0]) if found else None


# Each function with arguments that are right.
CALLS = [
    (concepts.parts, (CONCEPT,)), (concepts.words_in, (CONCEPT, "a")), (worlds.product, (WORLD, WORLD)),
    (WORLD.things_in, (CONCEPT,)), (WORLD.names, ()), (WORLD.edges, ()), (WORLD.words, ()),
    (taking.compare, (WORLD, 0, WORLD, 1, WORDS)), (taking.compare, (WORLD, 1, WORLD, 0, WORDS)),
    (leanest.classes, (WORLD,)), (leanest.leanest, (WORLD,)), (books.words_of, (BOOK,)), (books.under, (BOOK, "s", "r")),
    (books.broken_rules, (BOOK, WORLD)), (books.closed, (BOOK, WORLD)), (following.judge, (BOOK, "a", CONCEPT)),
    (following.judge, (BOOK, CONCEPT, "c")), (following.follows, (BOOK, "a", CONCEPT)), (toldworlds.terms, (BOOK, CONCEPT)),
    (toldworlds.told_world, (BOOK, CONCEPT)), (kinds.kind, (BOOK, CONCEPT, "c")), (kinds.all_kinds, (BOOK, WORDS)),
    (standings.standing, (BOOK, BOOK[1:], WORDS, CONCEPT)), (standings.has_loss, (BOOK, BOOK[1:], WORDS, CONCEPT)),
    (wordrules.rules_of, (WORLD, WORDS)), (wordrules.extents, (WORLD, WORDS)),
    (saying.says, (BOOK, BOOK[1:], WORDS)), (saying.says, (BOOK, BOOK, (("a",), ("r",)))),
    (parts.cheapest_part, (BOOK, (("a", "b"), ("r",)), {0: 1, 3: 2})), (questions.questions, (BOOK, CONCEPT)),
    (questions.questions, (BOOK[:1], "b")), (cheapest.cheapest, (BOOK, CONCEPT, {"a": 1, "b": 2, "c": 0}, {"r": 1, "s": 1})),
    (plain.tree, (CONCEPT,)), (plain.judge_plain, (CONCEPT, "a")), (plain.judge_plain, ("a", CONCEPT)),
    (plain.plainly_within, (CONCEPT, "a")), (answering.answer, (BOOK, WORLD, CONCEPT)), (answering.is_possible, (BOOK, WORLD)),
    (answering.answer, ([*BOOK, ("within", "b", "none")], WORLD, CONCEPT)), (reduced.reduced, (CONCEPT,)),
    (reduced.plain_common, (CONCEPT, "a")), (rising.steps_up, (CONCEPT,)), (rising.rank, (CONCEPT,)), (rising.above, (CONCEPT,)),
    (rising.ladder, (CONCEPT, "all")), (missing.missing, (BOOK, WORLD, ("and", "c", "b"), 0, ("a", "c"))),
    (learning.learn, (lambda concept: concept == "none", lambda concept: None)),
    (exploring.explore, (WORDS, refute)),
    (views.view, (BOOK[3:], WORLD, CONCEPT)), (views.view, (BOOK[3:], WORLD, "none")), (views.step, (WORLD, 1, ["a", "b", CONCEPT])),
    (leasts.least_of, (BOOK[3:], WORLD, 0)), (leasts.least_of, (BOOK[3:], World([("b",)], [(0, "r", 0)]), 0)),
    (leasts.least_in_depth, (WORLD, 0, 3)), (sharing.behind, (WORLD, 1)), (sharing.shared, (BOOK, "a", CONCEPT, "none")),
    (sharing.special, (BOOK, WORLD, 0)), (sharing.told_data, (BOOK, WORLD)), (sharing.shared_things, (BOOK, WORLD, (0, 1))),
    (weaker.weaker, (BOOK, 0, "a", CONCEPT)), (weaker.weaker, (BOOK, 0, "none", "c")), (defining.judge_said, (BOOK, "a", WORDS)),
    (defining.judge_said, (BOOK, "a", (("b",), ("r",)))), (defining.is_said, (BOOK, "a", WORDS)), (defining.between, (BOOK, "a", ("some", "r", "all"), WORDS)),
    (defining.between, (BOOK, "a", ("some", "r", "all"), (("b",), ("s",)))), (naming.name_order, (BOOK, ("a", "b", "c"))),
    (reading.read, ("a & some r (b & all)",)), (examples.separate, (BOOK, WORLD, (0,), (2,), WORDS)), (examples.separate, (BOOK, WORLD, (0,), (1,), WORDS)),
    (supposing.supposed, (WORLD, 0, CONCEPT)), (supposing.suppose, (BOOK, WORLD, 0, CONCEPT)), (supposing.suppose, (BOOK, WORLD, 1, "c")),
    (patterns.fillings, (("and", "x", CONCEPT), "x", CONCEPT)), (patterns.fills, (("and", "x", CONCEPT), "x", CONCEPT, "a")),
    (lambda book, data: Desk(book, data).rules_now(), (BOOK, WORLD)), (lambda book, data: Desk(book, data).data_now(), (BOOK, WORLD)),
    (lambda book, data, concept: Desk(book, data).answers(concept), (BOOK, WORLD, "b")), (Idea, (CONCEPT,)), (lambda told: list(Idea(told)), (CONCEPT,)),
]

# The attributes of evidence that have lists, or other evidence.
LISTS = ("pairs", "steps", "rules", "concepts", "says", "losses", "questions", "low", "ring", "high", "bounds", "nodes",
         "things", "depths", "explains", "clashes", "unknown", "lost", "kept")


def spoil(found):
    """Changes each list in what a function has returned."""
    if isinstance(found, (list, tuple)):
        for one in found:
            spoil(one)
    if isinstance(found, list):
        found.append("spoilt")
    for attribute in LISTS:
        if hasattr(found, attribute):
            spoil(getattr(found, attribute))
    if isinstance(found, World):
        spoil(found.names())
        spoil(found.edges())


class Conventions(unittest.TestCase):
    def test_arguments_stay_and_lists_are_new(self):
        for function, arguments in CALLS:
            before = copy.deepcopy(arguments)
            first = function(*arguments)
            self.assertEqual(arguments, before)
            kept = copy.deepcopy(first)
            spoil(first)
            self.assertEqual(arguments, before)
            self.assertEqual(function(*arguments), kept, function)

    def test_books_may_be_tuples(self):
        for function, arguments in CALLS:
            others = [tuple(one) if isinstance(one, list) else one for one in arguments]
            self.assertEqual(function(*others), function(*arguments))

    def test_evidence_is_equal_by_class_and_attributes(self):
        made = [lambda: TakenIn([(0, 0)]), lambda: Apart("a"), lambda: Follows([("a", "a", "same", ())]),
                lambda: Fails(World([("a",)], []), 0), lambda: WorldRules([("passes", "r")], ["all"]),
                lambda: TakenIn([]), lambda: Follows([]), lambda: WorldRules([], []), lambda: Says(["all"]), lambda: Loses("a", "b"),
                lambda: Loses("b", "a"), lambda: Enough((), Says(["all"]), []), lambda: Enough((), Says([]), []),
                lambda: Enough((), Says([]), [((0,), Loses("a", "b"))]), lambda: Enough((), Says([]), [((0,), Loses("b", "a"))]),
                lambda: Exact([], []), lambda: Exact([], ["all"]), lambda: Exact(["all"], []), lambda: Ring("a", [], [], []),
                lambda: Ring("a", [("r", "a")], [], []), lambda: Ring("a", [], [("r", "a")], []), lambda: Ring("a", [], [], [("r", "a")]),
                lambda: Cheapest("a", []), lambda: Cheapest("a", [(0, ("all",), 0)]), lambda: Cheapest("b", []), lambda: Mapped([0, 0]),
                lambda: Mapped([]), lambda: Unmapped(World([("a",)], []), 0), lambda: Unmapped(World([("a",)], []), 1),
                lambda: Answers([], [], [], World([()], [])), lambda: Answers([], [], [0], World([()], [])), lambda: Answers([0], [], [], World([()], [])),
                lambda: Answers([], ["a"], [], World([()], [])), lambda: Answers([], [], [], World([("a",)], [])), lambda: Impossible(0, "a"),
                lambda: Impossible(1, "a"), lambda: Impossible(0, "b"), lambda: Ladder(["all"]), lambda: Ladder([]), lambda: Missing([], [], []),
                lambda: Missing([()], [], []), lambda: Missing([], [()], []), lambda: Missing([], [], [((), World([()], []))]),
                lambda: Least("a", 0), lambda: Least("a", 1), lambda: Least("b", 0), lambda: Endless([]), lambda: Endless(["a"]), lambda: Weaker([], []),
                lambda: Weaker([("a", Fails(WORLD, 0))], []), lambda: Weaker([("a", Fails(WORLD, 1))], []), lambda: Weaker([], [("a", Follows([]))]),
                lambda: Said("a", 0), lambda: Said("a", 1), lambda: Said("b", 0), lambda: Unsaid([]), lambda: Unsaid(["a"]), lambda: Between("a", 0),
                lambda: Between("a", 1), lambda: Between("b", 0), lambda: NoneBetween([]), lambda: NoneBetween(["a"]), lambda: Separated("a", 0),
                lambda: Separated("a", 1), lambda: Separated("b", 0), lambda: Mixed(0, []), lambda: Mixed(1, []), lambda: Mixed(0, [(0, 0)]),
                lambda: CanBe(WORLD), lambda: CanBe(World([()], [])), lambda: CannotBe(0, "a"), lambda: CannotBe(1, "a"), lambda: CannotBe(0, "b")]
        for at, one in enumerate(made):
            for place, other in enumerate(made):
                self.assertIs(one() == other(), at == place)
                self.assertIs(one() != other(), at != place)

    def test_shows_does_not_change_evidence(self):
        for evidence, arguments in [
                (taking.compare(WORLD, 0, WORLD, 1, WORDS), (WORLD, 0, WORLD, 1, WORDS)),
                (taking.compare(WORLD, 1, WORLD, 0, WORDS), (WORLD, 1, WORLD, 0, WORDS)),
                (following.judge(BOOK, "a", CONCEPT), (BOOK, "a", CONCEPT)),
                (following.judge(BOOK, CONCEPT, "c"), (BOOK, CONCEPT, "c")),
                (wordrules.rules_of(WORLD, WORDS), (WORLD, WORDS)),
                (saying.says(BOOK, BOOK[1:], WORDS), (BOOK, BOOK[1:], WORDS)), (questions.questions(BOOK, "c"), (BOOK, "c")),
                (parts.cheapest_part(BOOK, (("a", "b"), ("r",)), {0: 1, 3: 2}), (BOOK, (("a", "b"), ("r",)), {0: 1, 3: 2})),
                (cheapest.cheapest(BOOK, "a", PRICES, PRICES), (BOOK, "a", PRICES, PRICES)), (plain.judge_plain(CONCEPT, "a"), (CONCEPT, "a")),
                (plain.judge_plain("a", CONCEPT), ("a", CONCEPT)), (answering.answer(BOOK, WORLD, CONCEPT), (BOOK, WORLD, CONCEPT)),
                (rising.ladder(CONCEPT, "a"), (CONCEPT, "a")), (missing.missing(BOOK, WORLD, "c", 0, ("c",)), (BOOK, WORLD, "c", 0, ("c",))),
                (leasts.least_of(BOOK[3:], WORLD, 0), (BOOK[3:], WORLD, 0)), (leasts.least_of([], WORLD, 2), ([], WORLD, 2)),
                (weaker.weaker(BOOK, 0, "a", CONCEPT), (BOOK, 0, "a", CONCEPT)), (defining.judge_said(BOOK, "a", WORDS), (BOOK, "a", WORDS)),
                (defining.judge_said(BOOK, "a", (("b",), ())), (BOOK, "a", (("b",), ()))), (defining.between(BOOK, "a", "all", WORDS), (BOOK, "a", "all", WORDS)),
                (defining.between(BOOK, "a", "a", ((), ())), (BOOK, "a", "a", ((), ()))), (supposing.suppose(BOOK, WORLD, 1, "a"), (BOOK, WORLD, 1, "a")),
                (supposing.suppose(BOOK, WORLD, 1, "c"), (BOOK, WORLD, 1, "c")), (examples.separate(BOOK, WORLD, (0,), (2,), WORDS), (BOOK, WORLD, (0,), (2,), WORDS)),
                (examples.separate(BOOK, WORLD, (0,), (1,), (("a",), ())), (BOOK, WORLD, (0,), (1,), (("a",), ())))]:
            before = copy.deepcopy(evidence)
            self.assertIs(evidence.shows(*arguments), True)
            self.assertEqual(evidence, before)

    def test_refused_calls_change_nothing(self):
        world, book = World([("a",)], [(0, "r", 0)]), [("passes", "r"), ("passes", 1)]
        evidence, prices = TakenIn([(0, 0)]), {0: 1}
        for error, call in [
                (BadConcept, lambda: world.things_in("A")), (BadBook, lambda: books.closed(book, world)),
                (BadThing, lambda: evidence.shows(world, 1, world, 0, ((), ()))),
                (BadWords, lambda: wordrules.rules_of(world, ((), ("r", "r")))),
                (BadBook, lambda: answering.answer(book, world, "A")), (BadConcept, lambda: rising.ladder("a", "none")),
                (BadPrices, lambda: parts.cheapest_part(book[:1], ((), ()), prices)), (NotWithin, lambda: rising.ladder("a", "b")),
                (TooLarge, lambda: missing.missing([], world, "a", 0, tuple("bcdefghij"))),
                (BadWorld, lambda: World([("a",)], [(0, "r", 1)]))]:
            with self.assertRaises(error) as caught:
                call()
            self.assertIsInstance(caught.exception, ConceptError)
        self.assertEqual(world, World([("a",)], [(0, "r", 0)]))
        self.assertEqual(book, [("passes", "r"), ("passes", 1)])
        self.assertEqual(evidence, TakenIn([(0, 0)]))
        self.assertEqual(prices, {0: 1})

    def test_values_of_any_kind_are_refused(self):
        odd = [None, True, False, 0, 7, -1, 10 ** 30, "", "A", b"a", (), [], {}, object(), ConceptError, len, (None,) * 3,
               ("and", object(), "a"), ("some", "r", {}), [[]], ({}, {}), ([], []), ((1,), (2,)), range(3)]
        for value in odd:
            with self.assertRaises(BadConcept):
                concepts.text(value)
            with self.assertRaises(BadWords):
                wordrules.extents(WORLD, value)
            with self.assertRaises(BadWorld):
                leanest.classes(value)
            with self.assertRaises(BadWorld):
                World(value, [])
            if value not in (0,) or isinstance(value, bool):
                with self.assertRaises(BadThing):
                    taking.compare(WORLD, 0, WORLD, value, WORDS)
            self.assertIs(books.is_rule(value), False)
            if value not in ((), []):
                with self.assertRaises(BadBook):
                    books.words_of(value)


if __name__ == "__main__":
    unittest.main()
