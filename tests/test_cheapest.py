"""[26] The cheapest equal concept."""

import copy
import unittest

from conceptworlds.cheapest import Cheapest, cheapest
from conceptworlds.concepts import parts, text, words_in
from conceptworlds.errors import BadBook, BadConcept, BadPrices, IsNothing
from conceptworlds.following import follows
from conceptworlds.kinds import kind
from conceptworlds.toldworlds import terms, told_world
from tests.support import OTHERS, Chance, all_words, rename, small_concepts, somes
from tests.test_plain import BAD_CONCEPTS

AB = [("within", "a", ("and", "b", "c")), ("within", ("and", "b", "c"), "a")]
NAMES, ROLES = {"a": 1, "b": 1, "c": 1}, {"r": 1, "s": 2}
BAD_NAMES = [None, 1, True, (), ("a",), {}, {"a": 1, "b": 1}, {"a": 1, "b": 1, "c": -1}, {"a": 1, "b": 1, "c": True},
             {"a": 1, "b": 1, "c": "1"}, {"a": 1, "b": 1, "c": 1, 1: 1}, {"a": 1, "b": 1, "c": 1, ("d",): 1},
             {"a": 1, "b": 1, "c": 1, None: 1}, {"a": 1, "b": 1, "c": 1, "d": -1}, {"a": 1, "b": 1, "c": 1, "d": None}]


def price(concept, names, roles):
    if isinstance(concept, str):
        return 0 if concept in ("all", "none") else names[concept]
    if concept[0] == "some":
        return roles[concept[1]] + price(concept[2], names, roles)
    return sum(price(part, names, roles) for part in concept[1:])


def equal(book, one, other):
    return follows(book, one, other) and follows(book, other, one)


def conjoined(concepts):
    return ("and", "all", "all", *concepts)


def is_kind(book, told, value):
    """Whether a tuple of concepts is a kind: that of the and of all of them."""
    known = terms(book, told)
    return bool(value) and all(one in known for one in value) and kind(book, conjoined(value), told) == value


def is_cheapest(found, book, told, names, roles):
    """Whether a Cheapest is as described, by the words of the document."""
    if not all(set(one) <= set(row) for one, row in zip(words_in(found.concept), all_words(book, told))):
        return False
    if not equal(book, found.concept, told):
        return False
    world, things = told_world(book, told)
    keys = [(thing, tuple(map(text, one))) for thing, one, _ in found.bounds]
    if keys != sorted(set(keys)) or not all(0 <= bound[0] < len(world) and is_kind(book, told, bound[1]) for bound in found.bounds):
        return False
    known = {bound[:2]: bound[2] for bound in found.bounds}
    needed = [((x, kind(book, "all", told)), 0) for x in range(len(world))]
    for (x, one), number in known.items():
        needed += [((x, kind(book, conjoined([*one, name]), told)), number + names[name]) for name in world.names()[x]]
        for y, role, z in world.edges():
            needed += [((x, kind(book, conjoined([*one, ("some", role, conjoined(other))]), told)), number + more + roles[role])
                       for (end, other), more in known.items() if y == x and end == z]
    if any(key not in known or known[key] > number for key, number in needed):
        return False
    start = things.index(told)
    return all(number >= price(found.concept, names, roles) for (x, one), number in known.items() if x == start and told in one)


class Cheapests(unittest.TestCase):
    def test_ordinary(self):
        self.assertEqual(cheapest(AB, ("and", "b", "c"), NAMES, {}).concept, "a")
        self.assertEqual(cheapest(AB, ("and", "b", "c"), {"a": 3, "b": 1, "c": 1}, {}).concept[0], "and")
        self.assertEqual(cheapest(AB, "a", {"a": 3, "b": 1, "c": 1}, {}).concept[0], "and")
        self.assertEqual(cheapest(AB, "a", {"a": 3, "b": 1, "c": 1}, {}).bounds, cheapest(AB, "a", {"a": 3, "b": 1, "c": 1}, {}).bounds)
        self.assertEqual(cheapest([], ("and", "a", "a", "all"), NAMES, ROLES).concept, "a")
        self.assertEqual(cheapest([("within", "a", "b")], ("and", "a", "b"), NAMES, ROLES).concept, "a")

    def test_all(self):
        self.assertEqual(cheapest([], "all", {}, {}), Cheapest("all", [(0, ("all",), 0)]))
        self.assertEqual(cheapest([("within", "all", "a")], "a", {"a": 5}, {}).concept, "all")
        self.assertEqual(cheapest([("itself", "r")], somes(4, "all"), {}, {"r": 2}).concept, "all")
        self.assertEqual(price(cheapest([("within", "all", "a")], "a", {"a": 0}, {}).concept, {"a": 0}, {}), 0)

    def test_words_that_the_told_concept_does_not_have(self):
        book = [("within", ("some", "r", "b"), "a"), ("within", "a", ("some", "r", "b"))]
        self.assertEqual(cheapest(book, somes(1, "b"), {"a": 1, "b": 1}, {"r": 1}).concept, "a")
        self.assertEqual(cheapest(book, "a", {"a": 3, "b": 1}, {"r": 1}).concept, ("some", "r", "b"))
        book = [("within", "a", ("some", "r", ("and", "b", "c"))), ("within", ("some", "r", "c"), "a")]
        self.assertEqual(cheapest(book, "a", {"a": 9, "b": 1, "c": 2}, {"r": 1}).concept, ("some", "r", "c"))
        role = [("below", "r", "s"), ("below", "s", "r")]
        self.assertEqual(cheapest(role, somes(1), {"a": 1}, {"r": 5, "s": 2}).concept, ("some", "s", "a"))
        self.assertEqual(cheapest([("passes", "r"), ("itself", "r")], somes(3), {"a": 1}, {"r": 5}).concept, somes(1))

    def test_prices(self):
        high = 10 ** 40
        self.assertEqual(cheapest(AB, "a", {"a": 2 * high + 1, "b": high, "c": high, "unused": 0}, {"unused": 3}).concept[0], "and")
        found = cheapest(AB, "a", {"a": 0, "b": 0, "c": 0}, {})
        self.assertTrue(found.shows(AB, "a", {"a": 0, "b": 0, "c": 0}, {}))
        free = [("within", "a", ("some", "r", "a")), ("within", ("some", "r", ("some", "r", "all")), "a")]
        found = cheapest(free, "a", {"a": 1}, {"r": 0})
        self.assertEqual(found.concept, somes(2, "all"))
        self.assertEqual(cheapest(free, "a", {"a": 1}, {"r": 1}).concept, "a")
        self.assertEqual(cheapest(AB, "a", {"a": 1, "b": 1, "c": 1, "WORD": 1, "": 0}, {"": 0}).concept, "a")

    def test_names_that_are_roles(self):
        book = [("within", "r", ("some", "r", "a")), ("within", ("some", "r", "a"), "r")]
        self.assertEqual(cheapest(book, "r", {"r": 9, "a": 1}, {"r": 1}).concept, ("some", "r", "a"))
        self.assertEqual(cheapest(book, somes(1), {"r": 1, "a": 1}, {"r": 1}).concept, "r")

    def test_by_chance(self):
        cheaper = 0
        for seed in range(300):
            chance = Chance(seed, names=("a", "b", "c"))
            book, told = chance.book(5), chance.concept(2)
            most = chance.random.choice([1, 3, 9])
            names = {name: chance.random.randint(0, most) for name in "abc"}
            roles = {role: chance.random.randint(0, most) for role in "rs"}
            if follows(book, told, "none"):
                with self.assertRaises(IsNothing):
                    cheapest(book, told, names, roles)
                continue
            found = cheapest(book, told, names, roles)
            self.assertTrue(found.shows(book, told, names, roles))
            self.assertTrue(equal(book, found.concept, told))
            cost = price(found.concept, names, roles)
            cheaper += cost < price(told, names, roles)
            for other in small_concepts(all_words(book, told), 2):
                self.assertTrue(price(other, names, roles) >= cost or not equal(book, other, told))
            if len(found.bounds) < 12:
                self.assertTrue(is_cheapest(found, book, told, names, roles))
            other = cheapest(rename(book, OTHERS), rename(told, OTHERS), rename(names, OTHERS), rename(roles, OTHERS))
            self.assertEqual(price(other.concept, rename(names, OTHERS), rename(roles, OTHERS)), cost)
            self.assertEqual(len(other.bounds), len(found.bounds))
        self.assertGreater(cheaper, 20)


class Shows(unittest.TestCase):
    def check(self, found, book, told, names, roles):
        self.assertIs(found.shows(book, told, names, roles), is_cheapest(found, book, told, names, roles))
        return found.shows(book, told, names, roles)

    def test_altered(self):
        book = [("within", "a", ("some", "r", "b")), ("within", ("some", "r", ("and", "b", "c")), "a"), ("within", "b", "c")]
        names, roles = {"a": 4, "b": 1, "c": 2}, {"r": 1}
        arguments = book, "a", names, roles
        found = cheapest(*arguments)
        self.assertEqual(found.concept, somes(1, "b"))
        self.assertTrue(self.check(found, *arguments))
        bounds = found.bounds
        for at, (thing, one, number) in enumerate(bounds):
            self.check(Cheapest(found.concept, bounds[:at] + bounds[at + 1:]), *arguments)
            self.assertFalse(Cheapest(found.concept, [*bounds[:at], bounds[at], *bounds[at:]]).shows(*arguments))
            self.assertFalse(Cheapest(found.concept, [*bounds[:at], bounds[at], (thing, one, number + 1), *bounds[at + 1:]]).shows(*arguments))
            for more in (-5, -1, 1, 7):
                self.check(Cheapest(found.concept, [*bounds[:at], (thing, one, number + more), *bounds[at + 1:]]), *arguments)
            self.assertFalse(Cheapest(found.concept, [*bounds[:at], (thing, one, number + 1), *bounds[at + 1:]]).shows(*arguments))
            for other in [(), one[:-1], (*one, one[-1]), one[::-1], (*one, "z"), ("z",), tuple(terms(book, "a"))]:
                self.check(Cheapest(found.concept, [*bounds[:at], (thing, other, number), *bounds[at + 1:]]), *arguments)
            for other in (-1, len(bounds), 10 ** 30, thing + 1):
                self.check(Cheapest(found.concept, [*bounds[:at], (other, one, number), *bounds[at + 1:]]), *arguments)
        self.assertFalse(Cheapest(found.concept, bounds[::-1]).shows(*arguments))
        self.assertFalse(Cheapest(found.concept, []).shows(*arguments))
        self.assertFalse(Cheapest(found.concept, [(-1, ("all",), 0), *bounds]).shows(*arguments))
        for concept, right in [("a", False), (somes(1, "b"), True), (("and", somes(1, "b"), "all"), True), ("b", False), (somes(1, "c"), False),
                               (("and", somes(1, "b"), somes(1, "b")), False), ("none", False), (somes(1, ("and", "b", "c")), False)]:
            self.assertIs(Cheapest(concept, bounds).shows(*arguments), right)
        self.assertFalse(Cheapest(("and", somes(1, "b"), ("some", "t", "none")), bounds).shows(*arguments))

    def test_missing_triples(self):
        found = cheapest(AB, "a", NAMES, {})
        for at, bound in enumerate(found.bounds):
            self.check(Cheapest(found.concept, found.bounds[:at] + found.bounds[at + 1:]), AB, "a", NAMES, {})
        self.assertFalse(all(Cheapest(found.concept, found.bounds[:at] + found.bounds[at + 1:]).shows(AB, "a", NAMES, {})
                             for at in range(len(found.bounds))))

    def test_words_of_the_concept(self):
        found = cheapest([], "a", {"a": 1, "b": 0}, {"r": 0})
        self.assertTrue(found.shows([], "a", {"a": 1, "b": 0}, {"r": 0}))
        self.assertFalse(Cheapest(("and", "a", somes(1, "all")), found.bounds).shows([], "a", {"a": 1, "b": 0}, {"r": 0}))
        book = [("itself", "r")]
        found = cheapest(book, "a", {"a": 1}, {"r": 0})
        self.assertTrue(Cheapest(("and", "a", somes(1, "all")), found.bounds).shows(book, "a", {"a": 1}, {"r": 0}))
        self.assertFalse(Cheapest(("and", "a", somes(1, "all")), found.bounds).shows(book, "a", {"a": 1}, {"r": 1}))

    def test_other_bounds(self):
        book, names = [("within", "all", "a")], {"a": 0}
        for bounds, right in [([(0, ("a", "all"), 0), (1, ("a", "all"), 0)], True), ([(0, ("a", "all"), 0), (1, ("a", "all"), -1)], True),
                              ([(0, ("a", "all"), -1), (1, ("a", "all"), 0)], False), ([(0, ("a", "all"), 0)], False),
                              ([(0, ("a", "all"), 1), (1, ("a", "all"), 0)], False), ([(0, ("all",), 0), (1, ("a", "all"), 0)], False)]:
            self.assertIs(Cheapest("all", bounds).shows(book, "a", names, {}), right)
        self.assertEqual(told_world(book, "a")[1], ["a", "all"])

    def test_altered_by_chance(self):
        for seed in range(80):
            chance = Chance(seed)
            book, told = chance.book(4), chance.concept(1, False)
            names, roles = {"a": 1, "b": seed % 3}, {"r": seed % 2, "s": 1}
            if follows(book, told, "none"):
                continue
            found = cheapest(book, told, names, roles)
            if len(found.bounds) > 9:
                continue
            for at, bound in enumerate(found.bounds):
                self.check(Cheapest(found.concept, found.bounds[:at] + found.bounds[at + 1:]), book, told, names, roles)
                more = (*bound[:2], bound[2] + chance.random.choice([-1, 1]))
                self.check(Cheapest(found.concept, [*found.bounds[:at], more, *found.bounds[at + 1:]]), book, told, names, roles)

    def test_new_each_time(self):
        found = cheapest(AB, "a", NAMES, ROLES)
        before = copy.deepcopy(found)
        found.bounds.clear()
        self.assertEqual(cheapest(AB, "a", NAMES, ROLES), before)
        self.assertNotEqual(found, before)
        self.assertEqual(Cheapest("a", ()).bounds, [])
        self.assertIn("all", parts("all"))


class Refusals(unittest.TestCase):
    def test_in_order(self):
        for function in (cheapest, Cheapest("a", []).shows):
            for bad in [None, 1, True, "a", {}, [None]]:
                with self.assertRaises(BadBook):
                    function(bad, None, None, None)
            for bad in BAD_CONCEPTS:
                with self.assertRaises(BadConcept):
                    function(AB, bad, None, None)
            for bad in BAD_NAMES:
                with self.assertRaises(BadPrices):
                    function(AB, "a", bad, {})
                with self.assertRaises(BadPrices):
                    function([*AB, ("within", "a", "none")], "a", bad, {})
            for bad in [None, 1, [], {}, {"r": True}, {"r": -1}, {"s": 1}, {1: 1, "r": 1}]:
                with self.assertRaises(BadPrices):
                    function([*AB, ("passes", "r"), ("within", "a", "none")], "a", NAMES, bad)
                with self.assertRaises(BadPrices):
                    function(AB, somes(1, "none"), NAMES, bad)
            for book, told in [([("within", "a", "none")], "a"), ([], "none"), ([], somes(2, "none")), ([("within", "all", "none")], "all")]:
                with self.assertRaises(IsNothing):
                    function(book, told, NAMES, ROLES)
            with self.assertRaises(BadPrices):
                function([], ("and", "a", "z"), NAMES, ROLES)


if __name__ == "__main__":
    unittest.main()
