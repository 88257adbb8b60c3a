"""Rules that are taken and taken back: what is needed of them is what is not said by the others."""

import unittest

from conceptworlds.following import follows
from conceptworlds.growing import Growing
from conceptworlds.wordrules import rules_of
from tests.support import Chance


def needed_one_by_one(rules, role_rules):
    """Those rules that are left, if from the last one on each is left out that follows from the others left."""
    left = list(rules)
    for rule in rules[::-1]:
        at = len(left) - 1 - left[::-1].index(rule)
        others = left[:at] + left[at + 1:]
        if follows([*others, *role_rules], rule[1], rule[2]):
            left = others
    return left


class Needed(unittest.TestCase):
    def growing(self, rules, role_rules):
        growing = Growing(role_rules, [concept for rule in rules for concept in rule[1:]])
        for rule in rules:
            growing.put(growing.numbers(rule[1:2]), growing.numbers(rule[2:])[0])
        return growing

    def test_by_chance(self):
        fewer = 0
        for seed in range(150):
            chance = Chance(seed, names=("a", "b", "c"))
            rules = [("within", chance.concept(2), chance.concept(2, False)) for _ in range(chance.random.randint(0, 9))]
            role_rules = [chance.role_rule() for _ in range(chance.random.randint(0, 2))]
            growing = self.growing(rules, role_rules)
            found = [rules[number] for number in growing.needed(0, len(rules))]
            self.assertEqual(found, needed_one_by_one(rules, role_rules))
            self.assertEqual([rules[number] for number in growing.needed(0, len(rules))], found)
            fewer += len(found) < len(rules)
        self.assertGreater(fewer, 50)

    def test_taken_back(self):
        for seed in range(80):
            chance = Chance(seed, names=("a", "b", "c"))
            rules = [("within", chance.concept(2), chance.concept(2)) for _ in range(5)]
            growing = self.growing(rules, [])
            for taken in range(len(rules)):
                for number in range(taken):
                    growing.take(number)
                for number, (_, concept, other) in enumerate(rules):
                    self.assertIs(growing.follows_already(number), follows(rules[:taken], concept, other))
                growing.take_back_all()

    def test_rules_of_larger_worlds(self):
        for seed in range(4):
            chance = Chance(seed, names=("a", "b", "c"))
            world = chance.world(7, 0.2)
            words = ("a", "b", "c"), ("r", "s")
            self.assertTrue(rules_of(world, words).shows(world, words))


if __name__ == "__main__":
    unittest.main()
