"""[12] The cheapest part that says all."""

import copy
import itertools
import unittest

from conceptworlds.errors import BadBook, BadPrices, BadWords
from conceptworlds.parts import Enough, cheapest_part
from conceptworlds.saying import Loses, Says, says
from tests.support import OTHERS, Chance, rename, rename_told, somes
from tests.test_taking import BAD_WORDS

ABC = [("within", "a", "c"), ("within", "c", "b"), ("within", "a", "b")]
AB = ("a", "b"), ()
BAD_PRICES = [None, 1, True, (), [], [1, 1, 1], {}, {0: 1, 1: 1}, {0: 1, 1: 1, 2: 1, 3: 1}, {0: 1, 1: 1, 2: -1},
              {0: 1, 1: 1, 2: True}, {0: 1, 1: 1, 2: "1"}, {0: 1, True: 1, 2: 1}, {0: 1, 1: 1, "2": 1}, {1: 1, 2: 1, 3: 1},
              {0: 1, 1: None, 2: 1}, {0: 1, 1: [1], 2: 1}, {-1: 1, 0: 1, 1: 1, 2: 1}, {(0,): 1, 1: 1, 2: 1}, {0: 1, None: 1, 2: 1}]


def part(book, kept):
    return [rule for index, rule in enumerate(book) if rule[0] != "within" or index in kept]


def price(prices, kept):
    return sum(prices[index] for index in kept)


def subsets(prices):
    for many in range(len(prices) + 1):
        yield from itertools.combinations(sorted(prices), many)


class Cheapest(unittest.TestCase):
    def test_ordinary(self):
        self.assertEqual(cheapest_part(ABC, AB, {0: 1, 1: 1, 2: 1}).kept, (2,))
        self.assertEqual(cheapest_part(ABC, AB, {0: 1, 1: 1, 2: 5}).kept, (0, 1))
        self.assertIn(cheapest_part(ABC, AB, {0: 1, 1: 1, 2: 2}).kept, [(2,), (0, 1)])
        self.assertEqual(cheapest_part(ABC, (("a", "b", "c"), ()), {0: 7, 1: 7, 2: 0}).kept[:2], (0, 1))
        self.assertEqual(cheapest_part(ABC, (("a",), ()), {0: 7, 1: 7, 2: 0}).kept, ())

    def test_prices(self):
        self.assertEqual(price({0: 0, 1: 0, 2: 0}, cheapest_part(ABC, AB, {0: 0, 1: 0, 2: 0}).kept), 0)
        high = 10 ** 40
        self.assertEqual(cheapest_part(ABC, AB, {2: high, 1: high, 0: high}).kept, (2,))
        self.assertEqual(cheapest_part(ABC, AB, {2: 2 * high + 1, 1: high, 0: high}).kept, (0, 1))
        self.assertEqual(cheapest_part(ABC, AB, {0: 0, 1: 1, 2: 2}).kept, (0, 1))

    def test_many_links(self):
        names = ["a", *["x" + one for one in "cdefghijklmnopqrs"], "b"]
        links = list(zip(names, names[1:]))
        book = [("within", *link) for link in links for _ in range(2)] + [("within", "b", "a")]
        prices = {at: 1 + at // 2 % 3 - (at % 6 == 0) for at in range(len(book))}
        found = cheapest_part(book, AB, prices)
        self.assertEqual(len(found.kept), len(links) + 1)
        self.assertEqual(price(prices, found.kept), sum(min(prices[at], prices[at + 1]) for at in range(0, 2 * len(links), 2)) + prices[len(book) - 1])
        self.assertTrue(found.shows(book, AB, prices))
        self.assertFalse(Enough(found.kept, found.says, found.losses[1:]).shows(book, AB, {**prices, **{at: 1 for at in prices}}))

    def test_without_concept_rules(self):
        for book in [[], [("passes", "r"), ("itself", "r"), ("passes", "r")]]:
            found = cheapest_part(book, (("a",), ("r",)), {})
            self.assertEqual((found.kept, found.losses), ((), []))
            self.assertTrue(found.shows(book, (("a",), ("r",)), {}))
            self.assertEqual(found.says, says(book, book, (("a",), ("r",))))

    def test_no_world(self):
        book = [("within", "all", "none"), ("within", "a", "b"), ("within", "all", "none")]
        found = cheapest_part(book, AB, {0: 3, 1: 1, 2: 2})
        self.assertEqual(found.kept, (2,))
        self.assertTrue(found.shows(book, AB, {0: 3, 1: 1, 2: 2}))

    def test_all_rules_are_needed(self):
        book = [("passes", "r"), ("within", "a", somes(1, "b")), ("within", "b", "c"), ("itself", "s")]
        found = cheapest_part(book, (("a", "b", "c"), ("r",)), {1: 4, 2: 0})
        self.assertEqual(found.kept, (1, 2))
        self.assertTrue(found.shows(book, (("a", "b", "c"), ("r",)), {1: 4, 2: 0}))

    def test_by_chance(self):
        losses = 0
        for seed in range(150):
            chance = Chance(seed, names=("a", "b", "c"))
            book, words = chance.book(6), (chance.some_of(("a", "b", "c"))[:2], chance.some_of(("r", "s"))[:1])
            prices = {at: chance.random.choice([0, 0, 1, 2, 3, 10 ** 30]) for at, rule in enumerate(book) if rule[0] == "within"}
            found = cheapest_part(book, words, prices)
            losses += len(found.losses)
            self.assertTrue(found.shows(book, words, prices))
            self.assertTrue(found.says.shows(book, part(book, found.kept), words))
            enough = [kept for kept in subsets(prices) if isinstance(says(book, part(book, kept), words), Says)]
            self.assertEqual(price(prices, found.kept), min(price(prices, kept) for kept in enough))
            self.assertIn(found.kept, enough)
            for indices, loses in found.losses:
                self.assertTrue(loses.shows(book, part(book, indices), words))
            for kept in subsets(prices):
                if price(prices, kept) < price(prices, found.kept):
                    self.assertTrue(any(set(kept) <= set(indices) for indices, _ in found.losses))
            other = cheapest_part(rename(book, OTHERS), rename_told(words, OTHERS), prices)
            self.assertEqual(price(prices, other.kept), price(prices, found.kept))
        self.assertGreater(losses, 30)


class Shows(unittest.TestCase):
    def setUp(self):
        self.prices = {0: 1, 1: 1, 2: 1}
        self.found = cheapest_part(ABC, AB, self.prices)

    def says_for(self, kept):
        return says(ABC, part(ABC, kept), AB)

    def test_other_parts(self):
        losses = self.found.losses
        for kept in subsets(self.prices):
            found = self.says_for(kept)
            right = kept == (2,)
            if isinstance(found, Says):
                self.assertIs(Enough(kept, found, losses).shows(ABC, AB, self.prices), right)
        self.assertTrue(Enough((0, 1), self.says_for((0, 1)), losses).shows(ABC, AB, {0: 1, 1: 1, 2: 2}))
        self.assertFalse(Enough((0,), self.found.says, losses).shows(ABC, AB, self.prices))
        for kept in [(2, 2), [2], (2, 0), (3,), (-1,), (True,), (1, 0), (2, 3), 2, None, ("2",), (10 ** 30,)]:
            self.assertFalse(Enough(kept, self.found.says, losses).shows(ABC, AB, self.prices))

    def test_other_losses(self):
        says_, loses = self.found.says, Loses("a", "b")
        for first in subsets(self.prices):
            for second in subsets(self.prices):
                losing = all(not isinstance(self.says_for(kept), Says) for kept in (first, second))
                found = Enough((0, 1), self.says_for((0, 1)), [(first, loses), (second, loses)])
                cheaper = [kept for kept in subsets(self.prices) if price({0: 2, 1: 2, 2: 5}, kept) < 4]
                covered = all(set(kept) <= set(first) or set(kept) <= set(second) for kept in cheaper)
                self.assertIs(found.shows(ABC, AB, {0: 2, 1: 2, 2: 5}), losing and covered)
        self.assertTrue(Enough((2,), says_, [((0,), loses), ((1,), loses), ((), loses)]).shows(ABC, AB, self.prices))
        self.assertFalse(Enough((2,), says_, []).shows(ABC, AB, self.prices))
        self.assertFalse(Enough((0, 1), says_, [((0,), loses), ((1,), loses)]).shows(ABC, AB, {0: 1, 1: 1, 2: 1}))
        for indices in [(1, 0), (0, 0), (0, 3), [0], (-1,), (True,), None, 0]:
            self.assertFalse(Enough((2,), says_, [((0,), loses), ((1,), loses), (indices, loses)]).shows(ABC, AB, self.prices))
        for wrong in [Loses("b", "a"), Loses("a", "a"), Loses("a", "c"), Loses(("some", "r", "a"), "b")]:
            self.assertFalse(Enough((2,), says_, [((0,), wrong), ((1,), loses)]).shows(ABC, AB, self.prices))

    def test_other_says(self):
        losses = self.found.losses
        self.assertFalse(Enough((2,), Says(["all"]), losses).shows(ABC, AB, self.prices))
        self.assertFalse(Enough((2,), Says([*self.found.says.concepts, "c"]), losses).shows(ABC, AB, self.prices))
        self.assertTrue(Enough((2,), Says([*self.found.says.concepts, "none"]), losses).shows(ABC, AB, self.prices))

    def test_altered_by_chance(self):
        for seed in range(60):
            chance = Chance(seed, names=("a", "b", "c"))
            book, words = chance.book(5), (("a", "b"), ("r",))
            prices = {at: chance.random.randint(1, 3) for at, rule in enumerate(book) if rule[0] == "within"}
            found = cheapest_part(book, words, prices)
            for at in range(len(found.losses)):
                fewer = found.losses[:at] + found.losses[at + 1:]
                covered = all(any(set(kept) <= set(indices) for indices, _ in fewer) for kept in subsets(prices)
                              if price(prices, kept) < price(prices, found.kept))
                self.assertIs(Enough(found.kept, found.says, fewer).shows(book, words, prices), covered)

    def test_new_each_time(self):
        before = copy.deepcopy(self.found)
        self.found.losses.append("spoilt")
        self.found.says.concepts.append("spoilt")
        self.assertEqual(cheapest_part(ABC, AB, self.prices), before)
        self.assertNotEqual(self.found, before)
        self.assertEqual(Enough((), None, ()).losses, [])
        self.assertNotEqual(Enough((), None, []), Enough((0,), None, []))


class Refusals(unittest.TestCase):
    def test_in_order(self):
        for function in (cheapest_part, Enough((), Says(["all"]), []).shows):
            for bad in [None, 1, True, "a", {}, [None], [*ABC, 0]]:
                with self.assertRaises(BadBook):
                    function(bad, None, None)
            for bad in BAD_WORDS:
                with self.assertRaises(BadWords):
                    function(ABC, bad, None)
            for bad in BAD_PRICES:
                with self.assertRaises(BadPrices):
                    function(ABC, AB, bad)
            for bad in [{0: 1}, {1: -1}, {1: 1, 0: 1}, {True: 1}]:
                with self.assertRaises(BadPrices):
                    function([("passes", "r"), ("within", "a", "b")], AB, bad)

    def test_arguments_stay(self):
        prices = {2: 1, 1: 1, 0: 1}
        cheapest_part(ABC, AB, prices)
        self.assertEqual(list(prices.items()), [(2, 1), (1, 1), (0, 1)])


if __name__ == "__main__":
    unittest.main()
