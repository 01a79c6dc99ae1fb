"""The examples of the document, as they stand, one behind the other, and those of README.md."""

import doctest
import pathlib
import unittest

PATTERNS = """
>>> from bannedorders.patterns import how_many, inverse, mirrored, pattern_of, places, shows, turned
>>> order = (2, 4, 1, 3)
>>> [shows(order, (2, 1, 3)), shows(order, (3, 2, 1)), places(order, (1, 3, 2)), how_many(order, (1, 2))]
[True, False, [(0, 1, 3)], 3]
>>> [turned(order), mirrored(order), inverse(order), pattern_of((5, -2, 9))]
[(3, 1, 4, 2), (3, 1, 4, 2), (3, 1, 4, 2), (2, 1, 3)]
"""
BLOCKS = """
>>> from bannedorders.blocks import blocks, is_simple, put_together, skew_parts, summed, tree
>>> [is_simple(order), summed((2, 1), (1,)), skew_parts((3, 4, 2, 1)), put_together(order, ((1,), (1, 2), (1,), (1,)))]
[True, (2, 1, 3), ((1, 2), (1,), (1,)), (2, 4, 5, 1, 3)]
>>> [tree((2, 1)), blocks((2, 1, 3))]
[('skew', (('one',), ('one',))), [(0, 1), (0, 2), (0, 3), (1, 2), (2, 3)]]
"""
LISTS = """
>>> from bannedorders.lists import is_finite, is_summed, joined, least, lets, lies_within, parting
>>> [least(((2, 3, 1), (1, 3, 4, 2), (2, 3, 1))), lets(((2, 3, 1),), (3, 1, 2)), lies_within(((1, 2),), ((2, 3, 1),))]
[((2, 3, 1),), True, True]
>>> [parting(((1, 2),), ((2, 1),)), joined(((1, 2),), ((2, 1),)), is_finite(((1, 2, 3), (2, 1))), is_summed(((2, 1),))]
[(1, 2), ((1, 3, 2), (2, 1, 3), (2, 3, 1), (3, 1, 2)), True, True]
"""
SLOTS = """
>>> from bannedorders.slots import filling, is_open, led, letters, order_of, put, word_of
>>> [put((0,), (1, 0)), word_of((2, 1, 3)), order_of(((1, 2), (1, 1), (1, 3))), led(((1, 0), (2, 3)))]
[(0, 1, 0), ((1, 0), (1, 3), (1, 3)), (2, 3, 1), (0, 1, 2)]
>>> [is_open(((2, 3, 1),), (0, 1, 0)), filling(((1, 2), ), (0, 1)), filling(((1, 2),), (1, 0))]
[True, (2, 1), None]
"""
ALTERNATIONS = """
>>> from bannedorders.alternations import alternation, endless, most_slots, stopped
>>> [alternation((1, -1), 3), stopped(((2, 3, 1),)), endless(((2, 3, 1),)), most_slots(((2, 3, 1), (1, 3, 2)))]
[(1, 6, 2, 5, 3, 4), ((2, 3, 1), (2, 3, 1), None, (2, 3, 1)), (1, -1), 2]
"""
MACHINES = """
>>> from bannedorders.machines import machine, spells, words
>>> rising = machine(((2, 1),))
>>> [rising, spells(rising, ((1, 1), (1, 3))), words(rising, 3)]
[(((((1, 1), 0), ((1, 3), 1)), ()), (1,)), True, [((1, 1), (1, 1), (1, 3))]]
"""
COUNTS = """
>>> from bannedorders.counts import count, counts, degree, rule
>>> two = ((2, 3, 1), (3, 1, 2))
>>> [counts(two, 5), count(two, 60) == 2 ** 59, rule(two), degree(two), degree(((2, 1),))]
[[1, 1, 2, 4, 8, 16], True, ((1, 1), ((2, 1), (0, 1))), None, 0]
"""
RATES = """
>>> from bannedorders.rates import faster, rate
>>> [rate(two), rate(((2, 1),)), faster(two, ((2, 1),))]
[((1, -2, 0), (2, 1), (2, 1)), ((1, -1), (1, 1), (1, 1)), 1]
"""
RANKS = """
>>> from bannedorders.ranks import drawn, next_order, nth, place_of
>>> [[nth(two, 3, i) for i in range(4)], place_of(two, (2, 1, 3)), next_order(two, (2, 1, 3)), drawn(two, 3, (1, 1, 0)), drawn(two, 3, (1,))]
[[(2, 1, 3), (1, 2, 3), (1, 3, 2), (3, 2, 1)], 0, (1, 2, 3), ((3, 2, 1), 2), None]
"""
SORTERS = """
>>> from bannedorders.sorters import least_unsorted, made, passes, sorts
>>> [made('stack', (2, 3, 1)), made('bubble', (3, 1, 2)), sorts('popper', (3, 2, 1)), passes('bubble', (2, 3, 1)), least_unsorted('queues', 4)]
[(2, 1, 3), (1, 2, 3), True, 2, [(3, 2, 1)]]
"""
SAYINGS = """
>>> from bannedorders.sayings import is_meant, lot_of, meaning
>>> [meaning(('both', ('sorted', 'stack'), ('turned', ('list', ((2, 1, 3),))))), lot_of(('either', ('list', ((1, 2),)), ('list', ((2, 1),))), 3)]
[((2, 3, 1), (3, 1, 2)), [(1, 2, 3), (3, 2, 1)]]
"""
# As it stands, with the backslash of the text.
TEXTS = r"""
>>> from bannedorders.texts import show_list, show_machine, show_saying, show_word
>>> [show_list(two), show_word(word_of((2, 1, 3))), show_machine(rising), show_saying(('turned', ('list', ((2, 1),))))]
['2 3 1, 3 1 2', '1m 1f 1f', '0 : 1l 0, 1f 1\n1 end : -', '(turned (list [2 1]))']
"""
# A later section uses the names of those ahead of it.
SECTIONS = (
    ("patterns", PATTERNS, 4), ("blocks", BLOCKS, 3), ("lists", LISTS, 3), ("slots", SLOTS, 3),
    ("alternations", ALTERNATIONS, 2), ("machines", MACHINES, 3), ("counts", COUNTS, 3), ("rates", RATES, 2),
    ("ranks", RANKS, 2), ("sorters", SORTERS, 2), ("sayings", SAYINGS, 2), ("texts", TEXTS, 2))


class Examples(unittest.TestCase):

    def test_sections(self):
        names = {}
        for section, text, many in SECTIONS:
            # A test of doctest's own leaves nothing behind, so the names are kept here.
            told = doctest.DocTestParser().get_doctest(text, names, section, section, 0)
            self.assertEqual(len(told.examples), many)
            runner = doctest.DocTestRunner(verbose=False)
            runner.run(told, clear_globs=False)
            names = told.globs
            self.assertEqual(runner.failures, 0, section)
            self.assertEqual(runner.tries, many, section)

    def test_readme(self):
        path = pathlib.Path(__file__).resolve().parent.parent / "README.md"
        found = doctest.testfile(str(path), module_relative=False, verbose=False)
        self.assertTrue(found.attempted > 0 and found.failed == 0)


if __name__ == "__main__":
    unittest.main()
