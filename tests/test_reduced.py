"""[15] Reduced forms, and plain common concepts."""

import itertools
import unittest

from conceptworlds.concepts import depth, size, text
from conceptworlds.errors import BadConcept, TooLarge
from conceptworlds.plain import plainly_within, tree
from conceptworlds.reduced import plain_common, reduced
from tests.support import OTHERS, Chance, in_order, nested, rename, small_concepts, somes
from tests.test_plain import BAD_CONCEPTS, WITH_NONE


def small_in_order(most):
    """All concepts written in order of a size at most, over two names and a role, and none itself."""
    by_size = {0: ["all"]}
    for count in range(1, most + 1):
        singles = [one for size_ in range(1, count + 1) for one in by_size.get((size_, "single"), [])]
        own = ["a", "b"] if count == 1 else []
        own += [("some", "r", part) for part in by_size[count - 1]]
        by_size[count, "single"] = own
        singles = sorted([*singles, *own], key=text)
        found = list(own)
        for many in range(2, count + 1):
            for items in itertools.combinations(singles, many):
                if sum(map(size, items)) == count:
                    found.append(("and", *items))
        by_size[count] = found
    return [concept for count in range(most + 1) for concept in by_size[count]]


class Reduced(unittest.TestCase):
    def test_forms(self):
        self.assertEqual(reduced("all"), "all")
        self.assertEqual(reduced("none"), "none")
        self.assertEqual(reduced("a"), "a")
        self.assertEqual(reduced(("and", "all", "all")), "all")
        self.assertEqual(reduced(("and", "b", "a", "b", "all")), ("and", "a", "b"))
        self.assertEqual(reduced(("and", "a", ("and", "a", ("and", "all", "a")))), "a")
        self.assertEqual(reduced(("and", ("and", "c", ("some", "r", "a")), ("and", "b", "all"))),
                         ("and", "b", "c", ("some", "r", "a")))
        self.assertEqual(reduced(("and", ("some", "r", "all"), ("some", "r", ("and", "b", "a")), ("some", "r", "a"))),
                         ("some", "r", ("and", "a", "b")))
        self.assertEqual(reduced(("some", "r", ("and", "all", ("some", "s", ("and", "all", "all"))))), somes(1, somes(1, "all", "s")))

    def test_order_is_that_of_the_texts(self):
        concept = ("and", ("some", "r", ("and", "a", "b")), ("some", "r", "z"), "t", "somea")
        self.assertEqual(reduced(concept), ("and", ("some", "r", ("and", "a", "b")), ("some", "r", "z"), "somea", "t"))
        self.assertTrue(in_order(reduced(concept)))

    def test_none(self):
        for concept in WITH_NONE:
            self.assertEqual(reduced(concept), "none")

    def test_deep(self):
        self.assertEqual(reduced(somes(100)), somes(100))
        self.assertEqual(reduced(nested(100)), ("and", "a", "b"))

    def test_same_for_all_that_are_plainly_equal(self):
        concepts = small_concepts((("a", "b"), ("r",)), 3)
        forms = {concept: reduced(concept) for concept in concepts}
        for one, two in itertools.combinations(concepts[::3], 2):
            equal = plainly_within(one, two) and plainly_within(two, one)
            self.assertIs(forms[one] == forms[two], equal)

    def test_least_by_chance(self):
        ordered = small_in_order(4)
        for seed in range(120):
            concept = Chance(seed, roles=("r",)).concept(3, seed % 9 == 0)
            form = reduced(concept)
            self.assertTrue(in_order(form))
            self.assertTrue(plainly_within(form, concept) and plainly_within(concept, form))
            self.assertLessEqual(size(form), size(concept))
            self.assertEqual(reduced(form), form)
            equal = [other for other in [*ordered, *(["none"] if form == "none" else [])]
                     if plainly_within(form, other) and plainly_within(other, form)]
            for other in equal:
                self.assertTrue(other == form or size(other) > size(form))
                self.assertGreaterEqual(depth(other), depth(form))
            if form != "none" and size(form) <= 4:
                self.assertIn(form, equal)

    def test_other_words(self):
        for seed in range(80):
            concept = Chance(seed).concept(4, False)
            other = reduced(rename(concept, OTHERS))
            self.assertEqual(other, reduced(rename(reduced(concept), OTHERS)))
            self.assertEqual((size(other), depth(other)), (size(reduced(concept)), depth(reduced(concept))))

    def test_refusals(self):
        for bad in BAD_CONCEPTS:
            with self.assertRaises(BadConcept):
                reduced(bad)


def common_tree(trees):
    """How many nodes the common tree of some trees has, by the words of the document."""
    def many(nodes):
        total = 1
        for role in {own[number][1] for own, number in zip(trees, nodes)} | {"r", "s"}:
            ends = [[at for at, (parent, by, _) in enumerate(own) if parent == number and by == role and at]
                    for own, number in zip(trees, nodes)]
            total += sum(many(choice) for choice in itertools.product(*ends))
        return total
    return many([0] * len(trees))


class Common(unittest.TestCase):
    def test_one(self):
        for concept in ["all", "a", nested(5), somes(4)]:
            self.assertEqual(plain_common(concept), reduced(concept))
            self.assertEqual(plain_common(concept, concept, concept), reduced(concept))

    def test_none(self):
        self.assertEqual(plain_common("none"), "none")
        self.assertEqual(plain_common(*WITH_NONE), "none")
        self.assertEqual(plain_common(*WITH_NONE, ("and", "b", "a"), "none"), ("and", "a", "b"))
        self.assertEqual(plain_common("none", ("and", "b", "a"), ("and", "a", "c")), "a")

    def test_nothing_in_common(self):
        self.assertEqual(plain_common("a", "b"), "all")
        self.assertEqual(plain_common(("some", "r", "a"), ("some", "r", "b")), ("some", "r", "all"))
        self.assertEqual(plain_common(("some", "r", "a"), ("some", "s", "a")), "all")
        self.assertEqual(plain_common("r", ("some", "r", "r")), "all")

    def test_least_by_chance(self):
        small = small_concepts((("a", "b"), ("r", "s")), 3)
        for seed in range(150):
            chance = Chance(seed)
            concepts = [chance.concept(3, seed % 4 == 0) for _ in range(chance.random.randint(1, 3))]
            found = plain_common(*concepts)
            self.assertEqual(found, reduced(found))
            for concept in concepts:
                self.assertTrue(plainly_within(concept, found))
            for other in chance.random.sample(small, 40):
                if all(plainly_within(concept, other) for concept in concepts):
                    self.assertTrue(plainly_within(found, other))
            self.assertEqual(plain_common(*concepts[::-1]), found)

    def test_limit(self):
        children = [("and", *names) for names in itertools.combinations("abcdefghijklmno", 4)]
        just = ("and", *[("some", "r", child) for child in children], *[("some", "s", child) for child in children[:634]])
        self.assertEqual(len(tree(just)), 2000)
        self.assertEqual(plain_common(just), reduced(just))
        with self.assertRaises(TooLarge):
            plain_common(("and", just, ("some", "t", "a")))
        self.assertEqual(plain_common(("and", just, "z", ("some", "s", "a"))), reduced(("and", just, "z")))
        self.assertEqual(plain_common("none", just), reduced(just))

    def test_limit_further_down(self):
        many = [("and", *names) for names in itertools.combinations("abcdefghijklmno", 3)]
        self.assertEqual(len(many), 455)
        row = ("and", *[("some", "r", child) for child in many[:332]])
        five = [("some", role, row) for role in "abcdef"]
        just = ("and", *five, somes(1, "all", "y"))
        self.assertEqual(len(tree(just)), 1 + 6 * 333 + 1)
        self.assertEqual(plain_common(just, "none"), reduced(just))
        for concept in [("and", *five, somes(2, "all", "y")), ("and", *five, somes(1, "all", "y"), ("some", "z", "a")), somes(1, just)]:
            self.assertEqual(len(tree(concept)), 2001)
            with self.assertRaises(TooLarge):
                plain_common(concept)

    def test_limit_reached_before_the_end(self):
        many = [("and", *names) for names in itertools.combinations("abcdefghijklmno", 5)][:1998]
        for last in ("all", "a"):
            just = ("and", *[("some", "r", child) for child in many], ("some", "s", last))
            self.assertEqual(len(tree(just)), 2000)
            self.assertEqual(plain_common(just), reduced(just))
        for more in [somes(2, "all", "s"), ("and", somes(1, "a", "s"), somes(1, "b", "s"))]:
            with self.assertRaises(TooLarge):
                plain_common(("and", *[("some", "r", child) for child in many], more))

    def test_limit_of_several(self):
        two = ("and", ("some", "r", "a"), ("some", "r", "b"))
        self.assertEqual(common_tree([tree(two)] * 10), 1025)
        self.assertEqual(plain_common(*[two] * 10), two)
        with self.assertRaises(TooLarge):
            plain_common(*[two] * 11)
        self.assertEqual(plain_common(*[two] * 11, "b"), "all")
        self.assertEqual(plain_common(*[("and", ("some", "r", "a"), two)] * 10), two)
        self.assertEqual(plain_common(*[("some", "r", "a")] * 500), ("some", "r", "a"))
        wide = ("and", *[("some", "r", name) for name in "abcdefghijklmnopqrstuvwxyzabcdefghijklmnopqrstuvwxyz"])
        with self.assertRaises(TooLarge):
            plain_common(wide, wide, wide)
        self.assertEqual(plain_common(wide, wide), reduced(wide))

    def test_limit_by_chance(self):
        for seed in range(60):
            chance = Chance(seed)
            concepts = [reduced(("and", *[chance.concept(3, False) for _ in range(5)])) for _ in range(3)]
            if common_tree([tree(concept) for concept in concepts]) > 2000:
                with self.assertRaises(TooLarge):
                    plain_common(*concepts)
            else:
                plain_common(*concepts)

    def test_refusals(self):
        with self.assertRaises(BadConcept):
            plain_common()
        for bad in BAD_CONCEPTS:
            for concepts in [(bad,), ("a", bad), (bad, "none")]:
                with self.assertRaises(BadConcept):
                    plain_common(*concepts)
        wide = ("and", *[("some", "r", name) for name in "abcdefghijklmnopqrstuvwxyz"])
        with self.assertRaises(BadConcept):
            plain_common(wide, wide, wide, None)


if __name__ == "__main__":
    unittest.main()
