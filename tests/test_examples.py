"""The examples of the interface, word for word."""

import doctest
import unittest
from pathlib import Path

EXAMPLES = {
    "concepts": r"""
>>> from conceptworlds.concepts import depth, parts, size, text, words_in
>>> concept = ('and', 'bird', ('some', 'eats', ('and', 'worm', 'all')))
>>> [text(concept), size(concept), depth(concept), parts(concept), words_in(concept)]
['bird & some eats (worm & all)', 3, 1, ['all', 'bird', ('and', 'bird', ('some', 'eats', ('and', 'worm', 'all'))), ('some', 'eats', ('and', 'worm', 'all')), 'worm', ('and', 'worm', 'all')], (('bird', 'worm'), ('eats',))]
""",
    "worlds and leanest": r"""
>>> from conceptworlds.leanest import classes, leanest
>>> from conceptworlds.worlds import World
>>> world = World([('a',), (), ('a',), ()], [(0, 'r', 1), (2, 'r', 1), (2, 'r', 3)])
>>> [classes(world), leanest(world).names(), leanest(world).edges()]
[[[0, 2], [1, 3]], [('a',), ()], [(0, 'r', 1)]]
""",
    "worlds and wordrules": r"""
>>> from conceptworlds.following import follows
>>> from conceptworlds.wordrules import extents, rules_of
>>> from conceptworlds.worlds import World
>>> world = World([('a',), ('a', 'b')], [(0, 'r', 1)])
>>> found = rules_of(world, (('a', 'b'), ('r',)))
>>> [extents(world, (('a', 'b'), ())), follows(found.rules, 'b', 'a'), follows(found.rules, 'all', 'a'), follows(found.rules, ('some', 'r', 'all'), ('some', 'r', 'b'))]
[[((0, 1), 'all'), ((1,), 'b')], True, True, True]
""",
    "following": r"""
>>> from conceptworlds.following import Follows, follows, judge
>>> book = [('within', 'valve', ('some', 'partof', 'heart')), ('within', 'heart', ('some', 'partof', 'body')), ('passes', 'partof')]
>>> found = judge(book, 'valve', ('some', 'partof', 'body'))
>>> [isinstance(found, Follows), found.shows(book, 'valve', ('some', 'partof', 'body')), follows(book[:2], 'valve', ('some', 'partof', 'body'))]
[True, True, False]
""",
    "toldworlds": r"""
>>> from conceptworlds.toldworlds import terms, told_world
>>> book = [('within', 'a', ('some', 'r', 'b'))]
>>> world, things = told_world(book)
>>> [terms(book), things, world.names(), world.edges()]
[['a', 'all', 'b', 'none', ('some', 'r', 'b')], ['a', 'all', 'b', ('some', 'r', 'b')], [('a',), (), ('b',), ()], [(0, 'r', 2), (3, 'r', 2)]]
""",
    "kinds": r"""
>>> from conceptworlds.kinds import all_kinds, kind
>>> [kind([('within', 'a', 'b')], ('and', 'a', 'c')), all_kinds([], (('a',), ()))]
[('a', 'all', 'b'), [(('a', 'all'), 'a'), (('a', 'all', 'none'), 'none'), (('all',), 'all')]]
""",
    "saying": r"""
>>> from conceptworlds.saying import Loses, Says, says
>>> first = [('within', 'a', ('some', 'r', 'b'))]
>>> one, two = says(first, [], (('a',), ())), says(first, [], (('a',), ('r',)))
>>> [isinstance(one, Says), isinstance(two, Loses), two.shows(first, [], (('a',), ('r',)))]
[True, True, True]
""",
    "parts": r"""
>>> from conceptworlds.parts import cheapest_part
>>> book = [('within', 'a', 'c'), ('within', 'c', 'b'), ('within', 'a', 'b')]
>>> [cheapest_part(book, (('a', 'b'), ()), {0: 1, 1: 1, 2: 1}).kept, cheapest_part(book, (('a', 'b'), ()), {0: 1, 1: 1, 2: 5}).kept]
[(2,), (0, 1)]
""",
    "questions": r"""
>>> from conceptworlds.questions import Ring, questions
>>> [questions([('within', ('some', 'r', 'b'), 'a')], 'a').questions, isinstance(questions([('within', ('some', 'r', 'a'), 'a')], 'a'), Ring)]
[['a', ('some', 'r', 'b')], True]
""",
    "plain": r"""
>>> from conceptworlds.plain import judge_plain, plainly_within, tree
>>> concept, other = ('and', 'bird', ('some', 'eats', ('and', 'worm', 'seed'))), ('some', 'eats', 'seed')
>>> [tree(concept), judge_plain(concept, other).nodes, plainly_within(other, concept)]
[[(None, None, ('bird',)), (0, 'eats', ('seed', 'worm'))], [0, 1], False]
""",
    "reduced": r"""
>>> from conceptworlds.reduced import plain_common, reduced
>>> [reduced(('and', 'b', ('some', 'r', 'all'), ('some', 'r', 'a'), 'b')), plain_common(('some', 'r', ('and', 'a', 'b')), ('and', ('some', 'r', 'a'), 'c'))]
[('and', 'b', ('some', 'r', 'a')), ('some', 'r', 'a')]
""",
    "rising": r"""
>>> from conceptworlds.rising import above, ladder, rank, steps_up
>>> concept = ('some', 'r', ('and', 'a', 'b'))
>>> [steps_up(concept), rank(concept), len(above(concept)), len(ladder(concept, 'all').concepts)]
[[('and', ('some', 'r', 'a'), ('some', 'r', 'b'))], 4, 6, 5]
""",
    "answering": r"""
>>> from conceptworlds.answering import answer, is_possible
>>> from conceptworlds.worlds import World
>>> book, data = [('within', ('some', 'r', 'b'), 'b')], World([(), (), ('b',)], [(0, 'r', 1), (1, 'r', 2)])
>>> found = answer(book, data, 'b')
>>> [found.things, found.shows(book, data, 'b'), is_possible([*book, ('within', 'b', 'none')], data)]
[[0, 1, 2], True, False]
""",
    "views": r"""
>>> from conceptworlds.views import step, view
>>> from conceptworlds.worlds import World
>>> ring = World([()], [(0, 'r', 0)])
>>> [view([('itself', 'r')], ring, 'all'), view([], ring, 'all'), step(ring, 0, ['a'])]
[(('all',), (0,), (('r', 0),)), (('all',), (), ()), ('some', 'r', 'a')]
""",
    "leasts": r"""
>>> from conceptworlds.leasts import least_of
>>> from conceptworlds.worlds import World
>>> ring = World([()], [(0, 'r', 0)])
>>> endless, least = least_of([], ring, 0), least_of([('itself', 'r')], ring, 0)
>>> [endless.shows([], ring, 0), least.depth, least.shows([('itself', 'r')], ring, 0)]
[True, 0, True]
""",
    "sharing": r"""
>>> from conceptworlds.sharing import shared
>>> world, thing = shared([('within', 'robin', 'bird'), ('within', 'wren', 'bird')], 'robin', 'wren')
>>> [world.names(), world.edges(), thing]
[[('bird',)], [], 0]
""",
    "weaker": r"""
>>> from conceptworlds.weaker import weaker
>>> found = weaker([('within', 'a', ('and', 'b', 'c'))], 0, 'a', 'b')
>>> [[pair[0] for pair in found.lost], [pair[0] for pair in found.kept]]
[['c'], ['b']]
""",
    "defining": r"""
>>> from conceptworlds.defining import is_said
>>> book = [('within', 'a', ('some', 'r', 'b')), ('within', ('some', 'r', 'b'), 'a')]
>>> [is_said(book, 'a', (('b',), ('r',))), is_said(book, 'a', ((), ('r',)))]
[True, False]
""",
    "naming": r"""
>>> from conceptworlds.naming import name_order
>>> name_order([('within', 'wren', 'bird'), ('within', 'bird', 'thing')], ('bird', 'thing', 'wren'))
{'bird': ('thing',), 'thing': (), 'wren': ('bird',)}
""",
    "desks": r"""
>>> from conceptworlds.desks import Desk
>>> from conceptworlds.worlds import World
>>> desk = Desk([('within', 'wren', 'bird')], World([('wren',)], []))
>>> [desk.answers('bird'), desk.add_thing('bird'), desk.answers('bird'), desk.take(0), desk.answers('bird')]
[[0], 1, [0, 1], ('within', 'wren', 'bird'), [1]]
""",
    "reading": r"""
>>> from conceptworlds.reading import read
>>> read('bird & some eats (worm & all)')
('and', 'bird', ('some', 'eats', ('and', 'worm', 'all')))
""",
    "ideas": r"""
>>> from conceptworlds.ideas import Idea
>>> one, other = Idea.parsed('bird & some eats worm'), Idea('bird')
>>> [one.inside(other), str(one.common(other)), len(one), list(one), one.covers('bird')]
[True, 'bird', 2, ['bird', ('some', 'eats', 'worm')], False]
""",
}


class Examples(unittest.TestCase):
    def test_examples(self):
        for name, told in EXAMPLES.items():
            with self.subTest(name):
                test = doctest.DocTestParser().get_doctest(told, {}, name, None, 0)
                self.assertTrue(test.examples)
                self.assertEqual(doctest.DocTestRunner().run(test).failed, 0)

    def test_readme(self):
        told = (Path(__file__).resolve().parent.parent / "README.md").read_text().replace("```", "")
        test = doctest.DocTestParser().get_doctest(told, {}, "README", None, 0)
        self.assertGreater(len(test.examples), 10)
        self.assertEqual(doctest.DocTestRunner().run(test).failed, 0)


if __name__ == "__main__":
    unittest.main()
