"""[24] Desks."""

import unittest

from conceptworlds.answering import answer, is_possible
from conceptworlds.desks import Desk
from conceptworlds.errors import BadBook, BadConcept, BadIndex, BadThing, BadWords, BadWorld, NotPossible
from conceptworlds.worlds import World
from tests.support import BAD_BOOKS, Chance, somes
from tests.test_plain import BAD_CONCEPTS
from tests.test_wordrules import BAD_WORLDS

BAD_WORDS = [None, 1, True, "", "A", "all", "none", "some", "abcdefghijklm", ("a",), b"a", ["a"]]


class Stop(Exception):
    pass


class Desks(unittest.TestCase):
    def test_ordinary(self):
        desk = Desk([("within", "wren", "bird")], World([("wren",)], []))
        self.assertEqual(desk.answers("bird"), [0])
        self.assertEqual(desk.add_thing("bird"), 1)
        self.assertEqual(desk.answers("bird"), [0, 1])
        self.assertEqual(desk.take(0), ("within", "wren", "bird"))
        self.assertEqual(desk.answers("bird"), [1])
        self.assertEqual(desk.rules_now(), [])
        self.assertEqual(desk.data_now(), World([("wren",), ("bird",)], []))

    def test_rules(self):
        rules = [("within", "a", "b"), ("passes", "r"), ("within", "a", "b"), ("itself", "s")]
        desk = Desk(tuple(rules), World([("a",)], []))
        self.assertEqual(desk.rules_now(), rules)
        self.assertIsNone(desk.put(("within", "b", "c")))
        self.assertEqual(desk.answers("c"), [0])
        self.assertEqual([desk.take(0), desk.answers("c")], [("within", "a", "b"), [0]])
        self.assertEqual([desk.take(1), desk.answers("c")], [("within", "a", "b"), []])
        self.assertEqual(desk.take(2), ("within", "b", "c"))
        self.assertEqual(desk.rules_now(), [("passes", "r"), ("itself", "s")])
        self.assertEqual([desk.take(1), desk.take(0), desk.rules_now()], [("itself", "s"), ("passes", "r"), []])

    def test_lists_that_are_changed_afterwards(self):
        rules, names, edges = [("within", "a", "b")], [("a",)], [(0, "r", 0)]
        data = World(names, edges)
        desk, other = Desk(rules, data), Desk(rules, data)
        rules.append(("within", "b", "none"))
        rules[0] = ("within", "a", "c")
        names.append(())
        edges.clear()
        self.assertEqual((desk.rules_now(), desk.data_now()), ([("within", "a", "b")], World([("a",)], [(0, "r", 0)])))
        desk.rules_now().append(("within", "a", "none"))
        desk.data_now().names().append(())
        desk.data_now().edges().clear()
        desk.answers("a").append(5)
        self.assertEqual([desk.answers("b"), desk.answers("a"), desk.answers(("some", "r", "b"))], [[0], [0], [0]])
        desk.add_name(0, "z")
        desk.put(("within", "z", "y"))
        self.assertEqual([data, other.data_now(), other.rules_now()], [World([("a",)], [(0, "r", 0)])] * 2 + [[("within", "a", "b")]])

    def test_things_names_and_edges(self):
        desk = Desk([], World([()], []))
        self.assertEqual([desk.add_thing(), desk.add_thing("c", "a", "c", "b", "a"), desk.add_thing("r")], [1, 2, 3])
        self.assertEqual(desk.data_now(), World([(), (), ("a", "b", "c"), ("r",)], []))
        for _ in range(2):
            self.assertIsNone(desk.add_name(1, "b"))
            self.assertIsNone(desk.add_name(2, "aa"))
            self.assertIsNone(desk.add_edge(0, "r", 2))
            self.assertIsNone(desk.add_edge(2, "r", 2))
            self.assertIsNone(desk.add_edge(0, "a", 1))
            self.assertEqual(desk.data_now(), World([(), ("b",), ("a", "aa", "b", "c"), ("r",)], [(0, "a", 1), (0, "r", 2), (2, "r", 2)]))
        self.assertEqual([desk.answers(("some", "r", "aa")), desk.answers(("some", "a", "b")), desk.answers(somes(9, "c"))], [[0, 2], [0], [0, 2]])

    def test_data_that_become_impossible(self):
        desk = Desk([("within", ("and", "a", "b"), "none"), ("within", ("some", "r", "c"), "b")], World([("a",), ()], []))
        for change, back in [(lambda: desk.add_name(0, "b"), None), (lambda: desk.add_edge(0, "r", 1), lambda: desk.add_name(1, "c")),
                             (lambda: desk.put(("within", "all", "b")), None), (lambda: desk.add_thing("b", "a"), None)]:
            def work(told):
                change()
                if back is not None:
                    self.assertEqual(desk.answers("a"), [0])
                    back()
                with self.assertRaises(NotPossible):
                    told.answers("a")
                with self.assertRaises(BadConcept):
                    told.answers("A")
                self.assertEqual(told.take(0), ("within", ("and", "a", "b"), "none"))
                return told.answers("a")

            self.assertEqual(desk.trial(work)[:1], [0])
            self.assertEqual((desk.answers("a"), desk.answers("b")), ([0], []))
        desk.put(("within", "a", "none"))
        for concept in ("all", "none", "a"):
            with self.assertRaises(NotPossible):
                desk.answers(concept)
        self.assertEqual(desk.take(2), ("within", "a", "none"))
        self.assertEqual([desk.answers("all"), desk.answers("none")], [[0, 1], []])

    def test_by_chance(self):
        for seed in range(60):
            chance = Chance(seed, names=("a", "b", "c"))
            rules, data = chance.book(4), chance.world(3, 0.2)
            desk = Desk(rules, data)
            names, edges = [set(row) for row in data.names()], set(data.edges())
            for _ in range(12):
                pick, x, y = chance.random.randrange(6), chance.random.randrange(len(names)), chance.random.randrange(len(names))
                if pick == 0:
                    rules.append(chance.rule())
                    desk.put(rules[-1])
                elif pick == 1 and rules:
                    at = chance.random.randrange(len(rules))
                    self.assertEqual(desk.take(at), rules.pop(at))
                elif pick == 2:
                    names.append({"a", "c"})
                    self.assertEqual(desk.add_thing("c", "a"), len(names) - 1)
                elif pick == 3:
                    names[x].add("b")
                    desk.add_name(x, "b")
                else:
                    edges.add((x, "rs"[pick % 2], y))
                    desk.add_edge(x, "rs"[pick % 2], y)
                data, concept = World([tuple(sorted(row)) for row in names], sorted(edges)), chance.concept(2)
                self.assertEqual((desk.rules_now(), desk.data_now()), (rules, data))
                if is_possible(rules, data):
                    self.assertEqual(desk.answers(concept), answer(rules, data, concept).things)
                else:
                    with self.assertRaises(NotPossible):
                        desk.answers(concept)


def state(desk):
    return desk.rules_now(), desk.data_now()


class Trials(unittest.TestCase):
    def setUp(self):
        self.desk = Desk([("within", "a", "b")], World([("a",)], []))

    def change(self, desk):
        """Changes all that can be changed."""
        desk.put(("within", "b", "c"))
        desk.take(0)
        other = desk.add_thing("d")
        desk.add_name(0, "e" * len(desk.rules_now()))
        desk.add_edge(0, "r", other)

    def test_returns_and_goes_back(self):
        before = state(self.desk)

        def work(desk):
            self.assertIs(desk, self.desk)
            self.change(desk)
            self.assertNotEqual(state(desk), before)
            return [desk.answers("d"), "told"]

        self.assertEqual(self.desk.trial(work), [[1], "told"])
        self.assertEqual(state(self.desk), before)
        self.assertIsNone(self.desk.trial(self.change))
        self.assertEqual(state(self.desk), before)

    def test_errors(self):
        before = state(self.desk)
        for error in (Stop, KeyError, BadBook, KeyboardInterrupt):
            def work(desk):
                self.change(desk)
                raise error(7)

            with self.assertRaises(error) as caught:
                self.desk.trial(work)
            if error is Stop:
                self.assertEqual(caught.exception.args, (7,))
            self.assertEqual(state(self.desk), before)
        with self.assertRaises(BadIndex):
            self.desk.trial(lambda desk: (desk.take(0), desk.take(0)))
        self.assertEqual(state(self.desk), before)

    def test_keep(self):
        def work(desk):
            desk.add_name(0, "x")
            self.assertIsNone(desk.keep())
            desk.add_name(0, "y")

        self.desk.trial(work)
        self.assertEqual(self.desk.data_now().names(), [("a", "x")])
        self.desk.trial(lambda desk: desk.add_name(0, "z"))
        self.assertEqual(self.desk.data_now().names(), [("a", "x")])

    def test_keep_twice_and_change_more(self):
        def work(desk):
            desk.put(("passes", "r"))
            desk.keep()
            desk.put(("passes", "s"))
            desk.take(0)
            desk.add_edge(0, "r", 0)
            desk.keep()
            desk.put(("passes", "t"))
            desk.add_edge(0, "s", 0)
            desk.add_thing()

        self.desk.trial(work)
        self.assertEqual(state(self.desk), ([("passes", "r"), ("passes", "s")], World([("a",)], [(0, "r", 0)])))

    def test_keep_and_error(self):
        def work(desk):
            desk.add_name(0, "x")
            desk.keep()
            desk.add_name(0, "y")
            raise Stop

        with self.assertRaises(Stop):
            self.desk.trial(work)
        self.assertEqual(self.desk.data_now().names(), [("a", "x")])

    def test_trials_within_trials(self):
        for inner_kept in (False, True):
            for outer_kept in ("no", "before", "after"):
                for error in (False, True):
                    self.setUp()
                    self.assertEqual(self.nested(inner_kept, outer_kept, error), self.expected(inner_kept, outer_kept))

    def nested(self, inner_kept, outer_kept, error):
        def inner(desk):
            desk.add_name(0, "x")
            if inner_kept:
                desk.keep()
            desk.add_name(0, "y")
            if error:
                raise Stop

        def outer(desk):
            desk.add_name(0, "o")
            if outer_kept == "before":
                desk.keep()
            try:
                desk.trial(inner)
            except Stop:
                pass
            self.assertEqual(desk.data_now().names(), [("a", "o", "x") if inner_kept else ("a", "o")])
            if outer_kept == "after":
                desk.keep()
            desk.add_name(0, "z")

        self.desk.trial(outer)
        return self.desk.data_now().names()[0]

    def expected(self, inner_kept, outer_kept):
        if outer_kept == "no":
            return ("a",)
        return ("a", "o", "x") if inner_kept and outer_kept == "after" else ("a", "o")

    def test_deeper_trials(self):
        def work(level):
            def inner(desk):
                desk.add_thing("x" * (level + 1))
                if level < 5:
                    desk.trial(work(level + 1))
                desk.keep()
                desk.add_name(0, "z")
            return inner

        self.desk.trial(work(0))
        self.assertEqual(self.desk.data_now().names(), [("a",), ("x",), ("xx",), ("xxx",), ("xxxx",), ("xxxxx",), ("xxxxxx",)])

    def test_keep_outside_of_trials(self):
        self.desk.keep()
        self.desk.add_name(0, "x")
        self.desk.keep()
        self.desk.trial(self.change)
        self.assertEqual(state(self.desk), ([("within", "a", "b")], World([("a", "x")], [])))
        self.desk.trial(lambda desk: desk.keep())
        self.desk.keep()
        self.desk.add_name(0, "y")
        self.assertEqual(self.desk.data_now().names(), [("a", "x", "y")])

    def test_two_desks(self):
        other = Desk([], World([()], []))

        def work(desk):
            other.add_name(0, "q")
            desk.add_name(0, "x")
            other.keep()
            other.trial(lambda more: (more.add_name(0, "p"), desk.keep()))
            desk.add_name(0, "y")

        self.desk.trial(work)
        self.assertEqual((self.desk.data_now().names(), other.data_now().names()), ([("a", "x")], [("q",)]))


class Refusals(unittest.TestCase):
    def test_made(self):
        for bad in BAD_BOOKS:
            with self.assertRaises(BadBook) as caught:
                Desk(bad, None)
            if isinstance(bad, (list, tuple)):
                self.assertEqual(caught.exception.index, 0)
        with self.assertRaises(BadBook) as caught:
            Desk([("passes", "r"), 1], None)
        self.assertEqual(caught.exception.index, 1)
        for bad in BAD_WORLDS:
            with self.assertRaises(BadWorld):
                Desk([], bad)

    def test_a_refused_call_changes_nothing(self):
        desk = Desk([("within", "a", "b")], World([("a",), ()], [(0, "r", 1)]))
        before = state(desk)
        for bad in [None, 1, True, "a", (), [], ("within", "a"), ["passes", "r"], ("passes", "all"), ("below", "r", "s", "t"), [("passes", "r")]]:
            with self.assertRaises(BadBook) as caught:
                desk.put(bad)
            self.assertEqual(caught.exception.index, 0)
        for bad in [None, True, False, -1, 1, "0", (0,), 10 ** 20]:
            with self.assertRaises(BadIndex):
                desk.take(bad)
        for bad in BAD_WORDS:
            for names in [(bad,), ("a", bad), (bad, "a")]:
                with self.assertRaises(BadWords):
                    desk.add_thing(*names)
            with self.assertRaises(BadWords):
                desk.add_name(0, bad)
            with self.assertRaises(BadWords):
                desk.add_edge(0, bad, 0)
        for bad in [None, True, False, -1, 2, "0", (0,), 10 ** 20]:
            for call in (lambda: desk.add_name(bad, None), lambda: desk.add_name(bad, "a"), lambda: desk.add_edge(bad, None, None), lambda: desk.add_edge(bad, "r", 0), lambda: desk.add_edge(0, None, bad), lambda: desk.add_edge(0, "r", bad)):
                with self.assertRaises(BadThing):
                    call()
        for bad in BAD_CONCEPTS:
            with self.assertRaises(BadConcept):
                desk.answers(bad)
        self.assertEqual(state(desk), before)


if __name__ == "__main__":
    unittest.main()
