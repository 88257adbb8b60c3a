"""[23] The order of names."""

import unittest

from conceptworlds.errors import BadBook, BadWords
from conceptworlds.following import follows
from conceptworlds.naming import name_order
from tests.support import BAD_BOOKS, OTHERS, Chance, rename, shuffled


def slow_order(book, names):
    """The names directly above each name, by the words of the document."""
    lies = {(one, other): follows(book, one, other) for one in names for other in names}

    def equal(one, other):
        return lies[one, other] and lies[other, one]

    found = {}
    for one in names:
        found[one] = tuple(other for other in names if lies[one, other] and not equal(one, other) and all(
            equal(name, one) or equal(name, other) for name in names if lies[one, name] and lies[name, other]))
    return found


class Order(unittest.TestCase):
    def test_ordinary(self):
        book = [("within", "wren", "bird"), ("within", "bird", "thing")]
        self.assertEqual(name_order(book, ("bird", "thing", "wren")), {"bird": ("thing",), "thing": (), "wren": ("bird",)})
        self.assertEqual(name_order(book, ("thing", "wren")), {"thing": (), "wren": ("thing",)})
        self.assertEqual(list(name_order(book, ("bird", "thing", "wren", "zoo"))), ["bird", "thing", "wren", "zoo"])
        book = [("within", "a", ("and", "b", "c")), ("within", ("some", "r", "d"), "a"), ("within", "e", ("some", "r", "d"))]
        self.assertEqual(name_order(book, tuple("abcde")), {"a": ("b", "c"), "b": (), "c": (), "d": (), "e": ("a",)})

    def test_names_in_no_rule(self):
        self.assertEqual(name_order([], ()), {})
        self.assertEqual(name_order([], ("a", "b")), {"a": (), "b": ()})
        self.assertEqual(name_order([("within", "all", "b")], ("a", "b", "c")), {"a": ("b",), "b": (), "c": ("b",)})

    def test_equal_names(self):
        book = [("within", "a", "b"), ("within", "b", "a"), ("within", "a", "c"), ("within", "d", "b")]
        self.assertEqual(name_order(book, tuple("abcd")), {"a": ("c",), "b": ("c",), "c": (), "d": ("a", "b")})
        self.assertEqual(name_order([*book, ("within", "c", "d")], tuple("abcd")), {name: () for name in "abcd"})

    def test_names_that_are_nothing(self):
        book = [("within", "a", "none"), ("within", "e", "a"), ("within", "b", "c")]
        self.assertEqual(name_order(book, tuple("abcde")), {"a": ("b", "d"), "b": ("c",), "c": (), "d": (), "e": ("b", "d")})
        self.assertEqual(name_order([("within", "all", "none")], ("a", "b")), {"a": (), "b": ()})

    def test_by_chance(self):
        names = tuple("abcdef")
        for seed in range(150):
            chance = Chance(seed, names=names)
            book = chance.book(6) + [("within", chance.random.choice(names), chance.random.choice(names)) for _ in range(6)]
            told = chance.some_of(names)
            found = name_order(book, told)
            self.assertEqual(list(found), list(told))
            self.assertEqual(found, slow_order(book, told))
            self.assertEqual(name_order(shuffled(book, chance), told), found)
            others = {**OTHERS, "d": "l", "e": "k", "f": "a"}
            other = name_order(rename(book, others), tuple(sorted(others[name] for name in told)))
            self.assertEqual(other, {others[name]: tuple(sorted(others[one] for one in row)) for name, row in found.items()})

    def test_many(self):
        names = tuple(one + two for one in "abcdefghij" for two in "abcdefghij")
        book = [("within", one, other) for one, other in zip(names, names[1:])] + [("within", names[0], names[50])]
        self.assertEqual(name_order(book, names), {**{one: (other,) for one, other in zip(names, names[1:])}, names[-1]: ()})

    def test_new_each_time(self):
        found = name_order([], ("a",))
        found["b"] = ()
        self.assertEqual(name_order([], ("a",)), {"a": ()})

    def test_refusals(self):
        for bad in BAD_BOOKS:
            with self.assertRaises(BadBook):
                name_order(bad, None)
        for bad in [None, "a", ["a"], ("b", "a"), ("a", "a"), ("A",), ("all",), (1,), (True,), (("a",), ()), ("abcdefghijklm",), {"a": 1}]:
            with self.assertRaises(BadWords):
                name_order([], bad)


if __name__ == "__main__":
    unittest.main()
