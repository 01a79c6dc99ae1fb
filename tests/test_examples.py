"""The examples of the document, as they stand, one behind the other, and those of README.md."""

import doctest
import pathlib
import unittest

PATTERNS = """
>>> from bannedorders.patterns import how_many, inverse, mirrored, pattern_of, places, shows, turned
>>> order = (2, 4, 1, 3)
>>> [shows(order, (2, 1, 3)), shows(order, (3, 2, 1)), places(order, (1, 3, 2)), how_many(order, (1, 2))]
[True, False, [(0, 1, 3)], 3]
>>> [turned(order), mirrored(order), inverse(order), pattern_of((5, -2, 9))]
[(3, 1, 4, 2), (3, 1, 4, 2), (3, 1, 4, 2), (2, 1, 3)]
"""
BLOCKS = """
>>> from bannedorders.blocks import blocks, is_simple, put_together, skew_parts, summed, tree
>>> [is_simple(order), summed((2, 1), (1,)), skew_parts((3, 4, 2, 1)), put_together(order, ((1,), (1, 2), (1,), (1,)))]
[True, (2, 1, 3), ((1, 2), (1,), (1,)), (2, 4, 5, 1, 3)]
>>> [tree((2, 1)), blocks((2, 1, 3))]
[('skew', (('one',), ('one',))), [(0, 1), (0, 2), (0, 3), (1, 2), (2, 3)]]
"""
# A later section uses the names of those ahead of it.
SECTIONS = (("patterns", PATTERNS, 4), ("blocks", BLOCKS, 3))


class Examples(unittest.TestCase):

    def test_sections(self):
        names = {}
        for section, text, many in SECTIONS:
            # A test of doctest's own leaves nothing behind, so the names are kept here.
            told = doctest.DocTestParser().get_doctest(text, names, section, section, 0)
            self.assertEqual(len(told.examples), many)
            runner = doctest.DocTestRunner(verbose=False)
            runner.run(told, clear_globs=False)
            names = told.globs
            self.assertEqual(runner.failures, 0, section)
            self.assertEqual(runner.tries, many, section)

    def test_readme(self):
        path = pathlib.Path(__file__).resolve().parent.parent / "README.md"
        found = doctest.testfile(str(path), module_relative=False, verbose=False)
        self.assertTrue(found.attempted > 0 and found.failed == 0)


if __name__ == "__main__":
    unittest.main()
