"""What the tests share: strict comparisons, the right errors, and wrong values."""

import time
import unittest

NO_INTEGERS = (None, True, False, "1", "", (1,), [1], {}, 1.0)
# The last two hold members that cannot be compared or hashed.
NO_ORDERS = (
    None, True, False, 0, 1, "", "12", b"\x01", {}, {1: 2}, {1}, [], [1], [1, 2],
    (0,), (2,), (-1,), (1, 1), (1, 3), (0, 1), (2, 3), (1, 2, 2), (True,), (False,), (True, 2), (1, 2, True),
    (1.0,), (1.0, 2), ("1",), (None,), ((1,),), (1, None), (1, "2"), ([1],), (1, {}),
)
NO_LISTS = (
    None, True, False, 0, 1, "", "12", b"", {}, {1: 2}, [], [(1,)], {(1,)}, (1,), (None,), ("1",), ("",), ((),), ([],),
    ([1],), ((1, 2), [2, 1]), ((1,), ()), ((0,),), ((2,),), ((1, 1),), ((1, 3),), ((True,),), ((1, True),), ((1.0,),),
    (((1,),),), ((1, 2), None), ((1, 2), "21"), ((1, 2), 1), ((2, 1), (-1,)), ((1, None),), (({},),), ((1, [2]),),
)
NO_FORMS = (
    None, True, False, 0, 1, "", "0", b"\x00", {}, {0}, [], [0], (), (0, 0), (0, 0, 1), (1, 0, 0), (0, 1, 0, 0),
    (2,), (0, 2), (1, 1), (1, 0, 1), (-1,), (0, -1), (1, 3), (False,), (True,), (0, True), (0.0,), (0, 1.0), ("0",),
    (None,), ((0,),), ([0],), (0, 1, None), ({},), (0, (1,)),
)
NO_LETTERS = (
    None, True, False, 0, 1, "", "10", "1m", b"\x01\x00", {}, {1, 0}, [], [1, 0], (), (1,), (1, 0, 0), (0, 0), (-1, 0),
    (1, -1), (1, 4), (1, None), (None, 0), (True, 0), (1, True), (1, False), (1.0, 0), (1, 0.0), ("1", 0), (1, "0"),
    ((1, 0),), ((1,), 0), ([1], 0), (1, {}),
)
NO_WORDS = tuple((letter,) for letter in NO_LETTERS) + tuple(((1, 0), letter) for letter in NO_LETTERS) + (
    None, True, False, 0, 1, "", "1m", b"", {}, [], [(1, 0)], {(1, 0)}, (1, 0), (1, 3),
)
NO_KINDS = (
    None, True, False, 0, 1, -1, "", "11", b"\x01\x01", {}, {1, -1}, [], [1, 1], (), (1,), (1, 1, 1), (0, 1), (1, 0),
    (2, 1), (1, -2), (True, 1), (1, True), (1.0, 1), (-1, -1.0), ("1", "1"), (None, None), ((1, 1),), ([1], 1),
)
ROW = (((1, 0), 0), ((1, 3), 1))
NO_MACHINES = (
    None, True, False, 0, 1, "", "ab", b"ab", {}, [], (), ((),), ((), ()), ((), (0,)), (((),),), (((),), (), ()),
    [((),), ()], ([()], ()), (([],), ()), (((),), []), (((),), [0]), (((),), {}), (((),), None), (((),), 0),
    (((),), ""), (((),), "0"), (None, ()), (0, ()), ("ab", ()), ((None,), ()), ((0,), ()), (("",), ()), (("ab",), ()),
    (((),), (1,)), (((),), (-1,)), (((),), (True,)), (((),), (False,)), (((),), (None,)), (((),), ((0,),)),
    (((),), (0, 0)), (((), ()), (1, 0)), (((), ()), (1, 1)), (((), ()), (0, 1, 2)), (((), ()), ([],)),
    ((ROW,), ()), ((ROW, (((1, 0), 2),)), (0,)), ((ROW, (((1, 0), -1),)), ()), ((ROW, (((1, 0), True),)), ()),
    ((ROW, (((1, 0), None),)), ()), ((ROW, (((1, 0), (1,)),)), ()), ((ROW, (((1, 0), 0.0),)), ()),
    ((ROW, (((1, 0),),)), ()), ((ROW, (((1, 0), 0, 0),)), ()), ((ROW, ([(1, 0), 0],)), ()), ((ROW, [((1, 0), 0)]), ()),
    ((ROW, (([1, 0], 0),)), ()), ((ROW, ((1, 0),)), ()), ((ROW, (None,)), ()), ((ROW, ("ab",)), ()), ((ROW, ((),)), ()),
    ((ROW[::-1], ()), ()), (((ROW[0], ROW[0]), ()), ()), ((ROW[:1] + (((1, 0), 1),), ()), ()),
    ((ROW + (((1, 2), 0),), ()), ()), ((ROW, ()), (0, 1, 1)), [(ROW, ()), (1,)], ([ROW, ()], (1,)),
    ((list(ROW), ()), ()),
) + tuple((((), ((letter, 0),)), (0,)) for letter in NO_LETTERS)

NO_TAPES = (
    None, True, False, 0, 1, "", "01", b"\x00\x01", {}, {0, 1}, [], [0], [0, 1], (2,), (-1,), (0, 2), (True,), (False,),
    (0, True), (1, False), (0.0,), (1, 1.0), ("0",), (None,), ((0,),), ([1],), (0, {}), (1, 0, 10 ** 30),
)
NO_SORTERS = (
    None, True, False, 0, 1, "", "Stack", "stack ", "stac", "stacks", "queue", "sort", b"stack", {}, {"stack"}, [],
    ["stack"], (), ("stack",), ("bubble", "stack"), ([],), 1.0,
)

LEAF = ("list", ((2, 1),))
NO_SAYINGS = (
    None, True, False, 0, 1, "", "list", "(list [2 1])", b"list", {}, {"sorted"}, [], (), ((),), (None,), ("",), (1, 2),
    ("list",), ("sorted",), ("turned",), ("both",), ("list", ((2, 1),), ((1, 2),)), ("sorted", "stack", "stack"),
    ("turned", LEAF, LEAF), ("mirrored", LEAF, LEAF), ("inverse", LEAF, LEAF), ("both", LEAF), ("either", LEAF),
    ("both", LEAF, LEAF, LEAF), ("either", LEAF, LEAF, LEAF), ("turned", ()), ("turned", None), ("turned", "stack"),
    ("turned", ((2, 1),)), ("both", LEAF, None), ("both", None, LEAF), ("either", LEAF, ("sorted",)), ("not", LEAF),
    ("Turned", LEAF), ("turned ", LEAF), ("turn", LEAF), ("", LEAF), (b"turned", LEAF), (None, LEAF), (True, LEAF),
    (("turned",), LEAF), (["turned"], LEAF), ({}, LEAF), ["turned", LEAF], ("turned", list(LEAF)), ["list", ((2, 1),)],
    ["sorted", "stack"], ("sorted", "Stack"), ("sorted", ""), ("sorted", None), ("sorted", ("stack",)),
    ("sorted", ["stack"]), ("sorted", LEAF), ("list", LEAF), ("list", "-"), ("list", [(2, 1)]), ("list", (2, 1)),
    ("stack",), ("stack", (2, 1)), (LEAF,), (LEAF, LEAF), ("turned", ("turned", ("turned", ("list", ((2, 2),))))),
    ("both", ("sorted", "stack"), ("turned", ["sorted", "stack"])), ("either", ("sorted", "stack"), ("list", ((),))),
) + tuple(("list", told) for told in NO_LISTS) + tuple(("both", LEAF, ("sorted", told)) for told in NO_SORTERS)
NO_NAMES = (
    None, True, False, 0, 1, "", "abcdefghi", "A", "aB", "a1", "1", "a b", " a", "a ", "a\n", "\n", "a-b", "a_b", "-",
    "\u00e4", "\u00df", b"a", {}, {"a"}, [], ["a"], (), ("a",),
)
# What texts are made of, and some signs that they are not.
SIGNS = " -,()[]:/+_.0123456789mlrfaedstikn~\n"


def bent(text):
    """All texts that come of one by one sign taken away, changed or put in."""
    for at in range(len(text) + 1):
        for sign in SIGNS:
            yield text[:at] + sign + text[at:]
            yield text[:at] + sign + text[at + 1:]
        yield text[:at] + text[at + 1:]


class Checked(unittest.TestCase):

    def same(self, got, wanted):
        """Equal also in the kinds of values: 1 is not True, a list no tuple."""
        self.assertEqual(repr(got), repr(wanted))

    def refused(self, error, value, call, *told, **named):
        """The call raises just this error, with the value itself."""
        with self.assertRaises(error) as caught:
            call(*told, **named)
        self.assertTrue(type(caught.exception) is error, type(caught.exception))
        self.assertTrue(caught.exception.value is value, "another value than the wrong one")

    def refused_with(self, error, value, call, *told):
        """The call raises just this error, with a value that is equal."""
        with self.assertRaises(error) as caught:
            call(*told)
        self.assertTrue(type(caught.exception) is error, type(caught.exception))
        self.same(caught.exception.value, value)

    def soon(self, call, *told):
        """What is returned, if it does not take long: far more than it should, as machines differ."""
        begin = time.perf_counter()
        found = call(*told)
        self.assertLess(time.perf_counter() - begin, 5)
        return found
