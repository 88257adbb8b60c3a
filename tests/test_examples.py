"""The examples of the interface, word for word."""

import doctest
import unittest

EXAMPLES = {
    "concepts": r"""
>>> from conceptworlds.concepts import depth, parts, size, text, words_in
>>> concept = ('and', 'bird', ('some', 'eats', ('and', 'worm', 'all')))
>>> [text(concept), size(concept), depth(concept), parts(concept), words_in(concept)]
['bird & some eats (worm & all)', 3, 1, ['all', 'bird', ('and', 'bird', ('some', 'eats', ('and', 'worm', 'all'))), ('some', 'eats', ('and', 'worm', 'all')), 'worm', ('and', 'worm', 'all')], (('bird', 'worm'), ('eats',))]
""",
    "worlds and leanest": r"""
>>> from conceptworlds.leanest import classes, leanest
>>> from conceptworlds.worlds import World
>>> world = World([('a',), (), ('a',), ()], [(0, 'r', 1), (2, 'r', 1), (2, 'r', 3)])
>>> [classes(world), leanest(world).names(), leanest(world).edges()]
[[[0, 2], [1, 3]], [('a',), ()], [(0, 'r', 1)]]
""",
    "worlds and wordrules": r"""
>>> from conceptworlds.following import follows
>>> from conceptworlds.wordrules import extents, rules_of
>>> from conceptworlds.worlds import World
>>> world = World([('a',), ('a', 'b')], [(0, 'r', 1)])
>>> found = rules_of(world, (('a', 'b'), ('r',)))
>>> [extents(world, (('a', 'b'), ())), follows(found.rules, 'b', 'a'), follows(found.rules, 'all', 'a'), follows(found.rules, ('some', 'r', 'all'), ('some', 'r', 'b'))]
[[((0, 1), 'all'), ((1,), 'b')], True, True, True]
""",
    "following": r"""
>>> from conceptworlds.following import Follows, follows, judge
>>> book = [('within', 'valve', ('some', 'partof', 'heart')), ('within', 'heart', ('some', 'partof', 'body')), ('passes', 'partof')]
>>> found = judge(book, 'valve', ('some', 'partof', 'body'))
>>> [isinstance(found, Follows), found.shows(book, 'valve', ('some', 'partof', 'body')), follows(book[:2], 'valve', ('some', 'partof', 'body'))]
[True, True, False]
""",
    "toldworlds": r"""
>>> from conceptworlds.toldworlds import terms, told_world
>>> book = [('within', 'a', ('some', 'r', 'b'))]
>>> world, things = told_world(book)
>>> [terms(book), things, world.names(), world.edges()]
[['a', 'all', 'b', 'none', ('some', 'r', 'b')], ['a', 'all', 'b', ('some', 'r', 'b')], [('a',), (), ('b',), ()], [(0, 'r', 2), (3, 'r', 2)]]
""",
    "kinds": r"""
>>> from conceptworlds.kinds import all_kinds, kind
>>> [kind([('within', 'a', 'b')], ('and', 'a', 'c')), all_kinds([], (('a',), ()))]
[('a', 'all', 'b'), [(('a', 'all'), 'a'), (('a', 'all', 'none'), 'none'), (('all',), 'all')]]
""",
}


class Examples(unittest.TestCase):
    def test_examples(self):
        for name, told in EXAMPLES.items():
            with self.subTest(name):
                test = doctest.DocTestParser().get_doctest(told, {}, name, None, 0)
                self.assertTrue(test.examples)
                self.assertEqual(doctest.DocTestRunner().run(test).failed, 0)


if __name__ == "__main__":
    unittest.main()
