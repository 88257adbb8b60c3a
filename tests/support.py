"""Random concepts, books and worlds, and slow ways to find out what the program finds out."""

import itertools
import random

from conceptworlds.books import words_of
from conceptworlds.concepts import text, words_in
from conceptworlds.worlds import World

ROLES = ("r", "s")
NAMES = ("a", "b")


def nested(depth, leaf="a"):
    """A concept whose tuples are nested so many levels deep, all of them ands."""
    concept = leaf
    for _ in range(depth):
        concept = ("and", concept, "b")
    return concept


def somes(depth, leaf="a", role="r"):
    """A concept of some in some."""
    concept = leaf
    for _ in range(depth):
        concept = ("some", role, concept)
    return concept


def chain(many, role="r"):
    """A world in which each thing but the last one has an edge to the next one."""
    return World([()] * many, [(x, role, x + 1) for x in range(many - 1)])


def ring(many, role="r"):
    """A world of things in a ring, of which the first one has a name."""
    return World([("a",)] + [()] * (many - 1), sorted((x, role, (x + 1) % many) for x in range(many)))


class Chance:
    """Things made by chance, the same in each run."""

    def __init__(self, seed, names=NAMES, roles=ROLES):
        self.random = random.Random(seed)
        self.names = names
        self.roles = roles

    def concept(self, depth, none=True):
        pick = self.random.random()
        if depth == 0 or pick < 0.35 or (pick < 0.7 and not self.roles):
            return self.random.choice([*self.names, *self.names, "all", *(["none"] if none else [])])
        if pick < 0.7:
            return ("some", self.random.choice(self.roles), self.concept(depth - 1, none))
        return ("and", *[self.concept(depth - 1, none) for _ in range(self.random.choice([2, 2, 3]))])

    def role_rule(self):
        role = self.random.choice(self.roles)
        return self.random.choice([("below", role, self.random.choice(self.roles)), ("passes", role), ("itself", role)])

    def rule(self):
        if self.random.random() < 0.4:
            return self.role_rule()
        return ("within", self.concept(2, self.random.random() < 0.3), self.concept(2, self.random.random() < 0.2))

    def book(self, most=5):
        return [self.rule() for _ in range(self.random.randint(0, most))]

    def world(self, most=4, share=0.3):
        many = self.random.randint(1, most)
        names = [tuple(name for name in self.names if self.random.random() < 0.4) for _ in range(many)]
        edges = [(x, role, y) for x in range(many) for role in self.roles for y in range(many)
                 if self.random.random() < share]
        return World(names, edges)

    def some_of(self, words):
        return tuple(word for word in words if self.random.random() < 0.7)


def slow_things(world, concept):
    """The set of the things of a world that are in a concept, by the words of the document."""
    things = set(range(len(world.names())))
    if concept == "all":
        return things
    if isinstance(concept, str):
        return {x for x in things if concept in world.names()[x]}
    if concept[0] == "and":
        for part in concept[1:]:
            things &= slow_things(world, part)
        return things
    held = slow_things(world, concept[2])
    return {x for x, role, y in world.edges() if role == concept[1] and y in held}


def slow_keeps(world, rule):
    """Whether a world keeps a rule, by the words of the document."""
    edges = set(world.edges())
    things = range(len(world.names()))
    if rule[0] == "within":
        return slow_things(world, rule[1]) <= slow_things(world, rule[2])
    if rule[0] == "below":
        return all((x, rule[2], y) in edges for x, role, y in edges if role == rule[1])
    if rule[0] == "itself":
        return all((x, rule[1], x) in edges for x in things)
    own = [(x, y) for x, role, y in edges if role == rule[1]]
    return all((x, rule[1], w) in edges for x, y in own for z, w in own if y == z)


def slow_closing(book, many, edges):
    """The ascending list of some edges among so many things, and of those that role rules ask for."""
    edges, before = set(edges), None
    while before != len(edges):
        before = len(edges)
        for rule in book:
            if rule[0] == "itself":
                edges |= {(x, rule[1], x) for x in range(many)}
            elif rule[0] == "below":
                edges |= {(x, rule[2], y) for x, role, y in edges if role == rule[1]}
            elif rule[0] == "passes":
                own = [(x, y) for x, role, y in edges if role == rule[1]]
                edges |= {(x, rule[1], w) for x, y in own for z, w in own if y == z}
    return sorted(edges)


def slow_levels(world, other, words):
    """For each pair of things the least depth of a concept that tells them apart, or None."""
    rows = [set(row) & set(words[0]) for row in world.names()]
    others = [set(row) for row in other.names()]
    pairs = [(x, y) for x in range(len(rows)) for y in range(len(others))]
    levels = {(x, y): None if rows[x] <= others[y] else 0 for x, y in pairs}
    for level in itertools.count(1):
        lost = []
        for x, y in pairs:
            for thing, role, end in world.edges():
                if levels[x, y] is None and thing == x and role in words[1]:
                    ends = [z for one, by, z in other.edges() if one == y and by == role]
                    if not any(levels[end, z] is None for z in ends):
                        lost.append((x, y))
        if not lost:
            return levels
        for pair in lost:
            levels[pair] = level


def small_concepts(words, size):
    """All concepts without none in told words of a size at most, but for repeats of parts that change nothing."""
    by_size = {0: ["all"]}
    for count in range(1, size + 1):
        found = list(words[0]) if count == 1 else []
        found += [("some", role, part) for role in words[1] for part in by_size[count - 1]]
        for less in range(1, count // 2 + 1):
            found += [("and", one, two) for one in by_size[less] for two in by_size[count - less]]
        by_size[count] = found
    return [concept for count in range(size + 1) for concept in by_size[count]]


def rename(value, words):
    """A concept, book, told words or another value made of tuples and lists, with other words for its words."""
    if isinstance(value, str):
        return words.get(value, value)
    if isinstance(value, World):
        names = [tuple(sorted(words.get(name, name) for name in row)) for row in value.names()]
        return World(names, sorted((x, words.get(role, role), y) for x, role, y in value.edges()))
    if isinstance(value, dict):
        return {rename(key, words): worth for key, worth in value.items()}
    if isinstance(value, list):
        return [rename(one, words) for one in value]
    if not isinstance(value, tuple):
        return value
    if value and value[0] in ("and", "within", "below", "passes", "itself"):
        return (value[0], *[rename(one, words) for one in value[1:]])
    if value and value[0] == "some":
        return ("some", words.get(value[1], value[1]), rename(value[2], words))
    return tuple(rename(one, words) for one in value)


def rename_told(words, others):
    """Told words with other words for them."""
    return tuple(tuple(sorted(others.get(word, word) for word in row)) for row in words)


BAD_BOOKS = [None, 1, True, "a", {}, (None,), [None], [("within", "a")], [("passes", "all")], [("within", "a", "b", "c")],
             [["within", "a", "b"]], [("below", "r")], [("itself", "R")], [("within", "a", ("and", "b"))]]

# Other words in another order; the names of the one are roles of the other.
OTHERS = {"a": "z", "b": "s", "c": "m", "r": "y", "s": "b", "t": "a"}


def all_words(book, *concepts):
    """The words of a book and of concepts, as told words."""
    names, roles = set(), set()
    for told in [words_of(book), words_in(*concepts)]:
        names |= set(told[0])
        roles |= set(told[1])
    return tuple(sorted(names)), tuple(sorted(roles))


def unravelled(world, thing, depth):
    """The concept of all that can be seen from a thing of a world at a depth at most."""
    pieces = list(world.names()[thing])
    if depth:
        pieces += [("some", role, unravelled(world, y, depth - 1)) for x, role, y in world.edges() if x == thing]
    return ("and", "all", "all", *pieces)


def seen_in_words(world, thing, depth, words):
    """The concept of all that can be seen from a thing at a depth at most, in told words."""
    pieces = [name for name in world.names()[thing] if name in words[0]]
    if depth:
        pieces += [("some", role, seen_in_words(world, y, depth - 1, words))
                   for x, role, y in world.edges() if x == thing and role in words[1]]
    return ("and", "all", "all", *pieces)


def keeping_world(chance, book, most=4):
    """A world, made by chance, that keeps a book; None, if none is found."""
    for _ in range(30):
        world = chance.world(most)
        world = World(world.names(), slow_closing(book, len(world), world.edges()))
        if all(slow_keeps(world, rule) for rule in book):
            return world
    return None


def shuffled(book, chance):
    """The rules of a book in another order, some of them twice."""
    rules = [*book, *[rule for rule in book if chance.random.random() < 0.5]]
    chance.random.shuffle(rules)
    return rules


def in_order(concept):
    """Whether a concept is written in order, by the words of the document."""
    if isinstance(concept, str):
        return True
    if concept[0] == "some":
        return in_order(concept[2])
    items = concept[1:]
    texts = [text(item) for item in items]
    names = [item for item in items if isinstance(item, str)]
    if texts != sorted(set(texts)) or "all" in names or "none" in names:
        return False
    return all(isinstance(item, str) or item[0] == "some" and in_order(item[2]) for item in items)
