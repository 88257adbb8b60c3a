"""[19] Common and special concepts, and of [29] the told world, the shared world and the shared thing of data."""

import copy
import itertools
import unittest

from conceptworlds.answering import answer, is_possible
from conceptworlds.books import broken_rules, words_of
from conceptworlds.errors import BadBook, BadConcept, BadThing, BadWorld, IsNothing, NotPossible
from conceptworlds.following import follows
from conceptworlds.leanest import classes, leanest
from conceptworlds.leasts import Endless, Least, least_of
from conceptworlds.reduced import plain_common, reduced
from conceptworlds.sharing import behind, shared, shared_things, special, told_data
from conceptworlds.toldworlds import terms, told_world
from conceptworlds.worlds import World, product
from tests.support import BAD_BOOKS, OTHERS, Chance, chain, rename, shuffled, slow_closing, slow_things, small_concepts, somes
from tests.test_plain import BAD_CONCEPTS
from tests.test_wordrules import BAD_WORLDS

BIRDS = [("within", "robin", "bird"), ("within", "wren", "bird")]
RBB = [("within", ("some", "r", "b"), "b")]
DATA = World([(), (), ("b",)], [(0, "r", 1), (1, "r", 2)])
BAD_THINGS = [None, True, False, -1, 3, "a", (0,), [0]]


def slow_behind(world, thing):
    reached = {thing}
    while not {y for x, _, y in world.edges() if x in reached} <= reached:
        reached |= {y for x, _, y in world.edges() if x in reached}
    order = sorted(reached)
    edges = [(order.index(x), role, order.index(y)) for x, role, y in world.edges() if x in reached]
    return World([world.names()[x] for x in order], edges), order.index(thing)


def slow_shared(worlds, things):
    """The shared world and the shared thing, by the words of the document."""
    world, thing = worlds[0], things[0]
    for other, more in zip(worlds[1:], things[1:]):
        world, thing = product(world, other), thing * len(other) + more
    part, place = slow_behind(world, thing)
    return leanest(part), [at for at, group in enumerate(classes(part)) if place in group][0]


def slow_told_data(book, data):
    """The told world of data, by the words of the document."""
    told = [term for term in terms(book) if not follows(book, term, "none")]
    every = sorted({name for row in data.names() for name in row} | set(words_of(book)[0]))
    certain = {name: answer(book, data, name).things for name in every}
    names = [tuple(name for name in every if x in certain[name]) for x in range(len(data))]
    names += [tuple(name for name in every if follows(book, term, name)) for term in told]
    edges = set(data.edges())
    for some in [term for term in told if term[0] == "some" and term != "some"]:
        end = len(data) + told.index(some[2])
        edges |= {(x, some[1], end) for x in answer(book, data, some).things}
        edges |= {(len(data) + at, some[1], end) for at, term in enumerate(told) if follows(book, term, some)}
    return World(names, slow_closing(book, len(names), edges))


class Behind(unittest.TestCase):
    def test_ordinary(self):
        world = World([("a",), (), ("b",), ("c",)], [(0, "r", 3), (1, "r", 2), (2, "s", 1), (2, "s", 2), (3, "t", 3)])
        self.assertEqual(behind(world, 0), (World([("a",), ("c",)], [(0, "r", 1), (1, "t", 1)]), 0))
        self.assertEqual(behind(world, 2), (World([(), ("b",)], [(0, "r", 1), (1, "s", 0), (1, "s", 1)]), 1))
        self.assertEqual(behind(world, 3), (World([("c",)], [(0, "t", 0)]), 0))
        self.assertEqual(behind(chain(3), 2), (World([()], []), 0))
        self.assertEqual(behind(chain(300), 0), (chain(300), 0))
        for seed in range(60):
            world = Chance(seed).world(6, 0.12)
            for x in range(len(world)):
                self.assertEqual(behind(world, x), slow_behind(world, x))

    def test_refusals(self):
        for bad in BAD_WORLDS:
            with self.assertRaises(BadWorld):
                behind(bad, None)
        for bad in BAD_THINGS:
            with self.assertRaises(BadThing):
                behind(DATA, bad)


class Shared(unittest.TestCase):
    def test_ordinary(self):
        self.assertEqual(shared(BIRDS, "robin", "wren"), (World([("bird",)], []), 0))
        self.assertEqual(shared(BIRDS, "robin"), (World([("bird", "robin")], []), 0))
        self.assertEqual(shared([], "a", "b"), (World([()], []), 0))
        self.assertEqual(shared([], "all"), (World([()], []), 0))
        self.assertEqual(shared([], ("some", "r", ("and", "a", "b")), ("and", ("some", "r", "a"), "c")), (World([("a",), ()], [(1, "r", 0)]), 1))
        self.assertEqual(shared(tuple(BIRDS), "robin", "robin", "wren"), shared(BIRDS, "robin", "wren"))

    def test_concepts_that_are_nothing(self):
        book = [*BIRDS, ("within", ("and", "robin", "wren"), "none")]
        self.assertEqual(shared(book, "none", "robin", ("and", "wren", "robin")), shared(book, "robin"))
        self.assertEqual(shared(book, "wren", ("some", "r", "none"), "robin"), shared(BIRDS, "wren", "robin"))
        for told in [("none",), ("none", ("and", "robin", "wren")), (("some", "r", ("and", "wren", "robin")),)]:
            with self.assertRaises(IsNothing):
                shared(book, *told)
        with self.assertRaises(IsNothing):
            shared([("within", "all", "none")], "a", "b")

    def test_role_rules(self):
        book = [("within", "a", ("some", "r", "b")), ("within", "b", ("some", "r", "c")), ("within", "d", ("some", "s", "c")),
                ("passes", "r"), ("below", "r", "s"), ("itself", "t")]
        world, thing = shared(book, "a", "d")
        self.assertEqual(broken_rules(book, world), [])
        for told, right in [(("some", "s", "c"), True), (("some", "r", "c"), False), (("some", "t", ("some", "s", "c")), True), (("some", "s", "b"), False)]:
            self.assertIs(thing in world.things_in(told), right)
        self.assertEqual(least_of(book, world, thing), Least(("some", "s", "c"), 1))

    def test_least_common_concepts(self):
        book = [("within", "a", ("some", "r", "a")), ("within", "b", ("some", "r", "b"))]
        world, thing = shared(book, "a", "b")
        self.assertIsInstance(least_of(book, world, thing), Endless)
        book += [("within", "a", "c"), ("within", "b", "c"), ("within", "c", ("some", "r", "c"))]
        world, thing = shared(book, "a", "b")
        self.assertEqual(least_of(book, world, thing), Least("c", 0))
        for seed in range(60):
            chance = Chance(seed)
            told = [chance.concept(2, False) for _ in range(2 + seed % 2)]
            world, thing = shared([], *told)
            self.assertEqual(reduced(least_of([], world, thing).concept), plain_common(*told))

    def test_by_chance(self):
        found = {}
        for seed in range(200):
            chance = Chance(seed, names=("a", "b", "c")[:2 + seed % 2])
            book, told = chance.book(4), [chance.concept(2, seed % 3 == 0) for _ in range(1 + seed % 3)]
            live = [concept for concept in told if not follows(book, concept, "none")]
            found[len(live)] = found.get(len(live), 0) + 1
            if not live:
                with self.assertRaises(IsNothing):
                    shared(book, *told)
                continue
            world, thing = shared(book, *told)
            worlds = [told_world(book, concept) for concept in live]
            self.assertEqual((world, thing), slow_shared([one for one, _ in worlds], [rows.index(concept) for concept, (_, rows) in zip(live, worlds)]))
            self.assertEqual(broken_rules(book, world), [])
            for other in [chance.concept(2) for _ in range(8)]:
                self.assertIs(thing in slow_things(world, other), all(follows(book, concept, other) for concept in told))
            again, place = shared(rename(shuffled(book, chance), OTHERS), *rename(told, OTHERS))
            self.assertEqual(len(again), len(world))
            self.assertIs(type(least_of(rename(book, OTHERS), again, place)), type(least_of(book, world, thing)))
        self.assertTrue(all(found[many] > 10 for many in range(4)))

    def test_large(self):
        names = ["x" + one + two for one in "abcdefgh" for two in "abcde"]
        book = [("passes", "r"), ("below", "s", "r")]
        for at in range(1, 40):
            book += [("within", names[at], names[at // 2]), ("within", names[at], ("some", "rs"[at % 2], names[at * 11 % 40]))]
        world, thing = shared(book, names[39], names[38], names[37])
        self.assertEqual(broken_rules(book, world), [])
        self.assertIn(thing, world.things_in(names[0]))
        self.assertEqual(len(classes(world)), len(world))

    def test_refusals(self):
        for bad in BAD_BOOKS:
            with self.assertRaises(BadBook):
                shared(bad)
        with self.assertRaises(BadConcept):
            shared([("within", "all", "none")])
        for bad in BAD_CONCEPTS:
            with self.assertRaises(BadConcept):
                shared([("within", "all", "none")], "a", bad)


class Special(unittest.TestCase):
    def test_ordinary(self):
        world, thing = special(RBB, DATA, 0)
        self.assertEqual(least_of(RBB, world, thing).depth, 2)
        self.assertEqual(reduced(least_of(RBB, world, thing).concept), somes(2, "b"))
        for concept in small_concepts((("b", "c"), ("r",)), 4):
            self.assertIs(thing in world.things_in(concept), 0 in answer(RBB, DATA, concept).things)

    def test_things_with_nothing(self):
        world, thing = special([], World([(), ("a",)], [(1, "r", 0)]), 0)
        self.assertEqual(least_of([], world, thing), Least("all", 0))
        world, thing = special([("within", "all", ("some", "s", "c"))], World([()], []), 0)
        self.assertEqual(reduced(least_of([("within", "all", ("some", "s", "c"))], world, thing).concept), "all")
        self.assertIn(thing, world.things_in(somes(3, "c", "s")))

    def test_by_chance(self):
        possible = 0
        for seed in range(150):
            chance = Chance(seed, names=("a", "b", "c"))
            book, data = chance.book(5), chance.world(3, 0.25)
            if not is_possible(book, data):
                with self.assertRaises(NotPossible):
                    special(book, data, 0)
                continue
            possible += 1
            for x in range(len(data)):
                world, thing = special(book, data, x)
                self.assertEqual(broken_rules(book, world), [])
                for other in [chance.concept(2) for _ in range(6)]:
                    self.assertIs(thing in slow_things(world, other), x in answer(book, data, other).things)
        self.assertLess(100, possible)
        self.assertLess(possible, 150)

    def test_refusals(self):
        never = [("within", "all", "none")]
        for bad in BAD_BOOKS:
            with self.assertRaises(BadBook):
                special(bad, None, None)
        for bad in BAD_WORLDS:
            with self.assertRaises(BadWorld):
                special(never, bad, None)
        for bad in BAD_THINGS:
            with self.assertRaises(BadThing):
                special(never, DATA, bad)
        with self.assertRaises(NotPossible):
            special([*RBB, ("within", "b", "none")], DATA, 0)


class ToldData(unittest.TestCase):
    def test_ordinary(self):
        self.assertEqual(told_data([], World([("a",), ()], [(0, "r", 1)])), World([("a",), (), ()], [(0, "r", 1)]))
        book = [("within", "a", ("some", "r", "b")), ("within", "c", "none")]
        # the terms are a, all, b, some r b: the things 1 to 4
        self.assertEqual(told_data(book, World([("a", "z")], [])), World([("a", "z"), ("a",), (), ("b",), ()], [(0, "r", 3), (1, "r", 3), (4, "r", 3)]))

    def test_edges_of_role_rules(self):
        book = [("within", "a", ("some", "r", "b")), ("passes", "r"), ("itself", "s")]
        found = told_data(book, World([(), ("a",)], [(0, "r", 1)]))
        self.assertEqual([end for x, role, end in found.edges() if (x, role) == (0, "r")], [1, 4])
        self.assertEqual([edge for edge in found.edges() if edge[1] == "s"], [(x, "s", x) for x in range(len(found))])

    def test_by_chance(self):
        for seed in range(150):
            chance = Chance(seed, names=("a", "b", "c")[:2 + seed % 2])
            book, data = chance.book(4), chance.world(3, 0.25)
            if not is_possible(book, data):
                with self.assertRaises(NotPossible):
                    told_data(book, data)
                with self.assertRaises(NotPossible):
                    shared_things(book, data, (0,))
                continue
            world = told_data(book, data)
            self.assertEqual(world, slow_told_data(book, data))
            for things in itertools.chain(itertools.combinations(range(len(data)), 1), itertools.combinations(range(len(data)), 2)):
                found = shared_things(book, data, things)
                self.assertEqual(found, slow_shared([world] * len(things), things))
                for other in [chance.concept(2) for _ in range(4)]:
                    certain = answer(book, data, other).things
                    self.assertIs(found[1] in slow_things(found[0], other), all(x in certain for x in things))

    def test_shared_things(self):
        self.assertEqual(shared_things([], DATA, (2,)), (World([("b",)], []), 0))
        self.assertEqual(shared_things([], DATA, (1, 2)), (World([()], []), 0))
        self.assertEqual(shared_things([], DATA, (0, 1)), (World([(), ()], [(0, "r", 1)]), 0))
        self.assertEqual(least_of(RBB, *shared_things(RBB, DATA, (0, 1, 2))), Least("b", 0))

    def test_refusals(self):
        never = [("within", "all", "none")]
        for function in (lambda book, data: told_data(book, data), lambda book, data: shared_things(book, data, None)):
            for bad in BAD_BOOKS:
                with self.assertRaises(BadBook):
                    function(bad, None)
            for bad in BAD_WORLDS:
                with self.assertRaises(BadWorld):
                    function(never, bad)
        for bad in [None, 0, True, (), [0], (0, 0), (1, 0), (True,), (3,), (-1,), ("a",), ((0,),), (0, None), {}, "a"]:
            with self.assertRaises(BadThing):
                shared_things(never, DATA, bad)
        for function in (lambda: told_data(never, DATA), lambda: shared_things(never, DATA, (0, 2))):
            with self.assertRaises(NotPossible):
                function()

    def test_new_each_time(self):
        before = copy.deepcopy(DATA)
        for function in (lambda: shared(RBB, "b", ("some", "r", "b")), lambda: special(RBB, DATA, 1), lambda: told_data(RBB, DATA), lambda: shared_things(RBB, DATA, (0, 1))):
            self.assertEqual(function(), function())
        self.assertEqual(DATA, before)


if __name__ == "__main__":
    unittest.main()
