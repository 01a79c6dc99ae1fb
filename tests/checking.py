"""What the tests share: strict comparisons, the right errors, and wrong values."""

import unittest

NO_INTEGERS = (None, True, False, "1", "", (1,), [1], {}, 1.0)
# The last two hold members that cannot be compared or hashed.
NO_ORDERS = (
    None, True, False, 0, 1, "", "12", b"\x01", {}, {1: 2}, {1}, [], [1], [1, 2],
    (0,), (2,), (-1,), (1, 1), (1, 3), (0, 1), (2, 3), (1, 2, 2), (True,), (False,), (True, 2), (1, 2, True),
    (1.0,), (1.0, 2), ("1",), (None,), ((1,),), (1, None), (1, "2"), ([1],), (1, {}),
)


class Checked(unittest.TestCase):

    def same(self, got, wanted):
        """Equal also in the kinds of values: 1 is not True, a list no tuple."""
        self.assertEqual(repr(got), repr(wanted))

    def refused(self, error, value, call, *told, **named):
        """The call raises just this error, with the value itself."""
        with self.assertRaises(error) as caught:
            call(*told, **named)
        self.assertTrue(type(caught.exception) is error, type(caught.exception))
        self.assertTrue(caught.exception.value is value, "another value than the wrong one")

    def refused_with(self, error, value, call, *told):
        """The call raises just this error, with a value that is equal."""
        with self.assertRaises(error) as caught:
            call(*told)
        self.assertTrue(type(caught.exception) is error, type(caught.exception))
        self.same(caught.exception.value, value)
