"""[1] and errors.py: the classes of errors and what they hold."""

import inspect
import unittest

from checking import Checked

from bannedorders import errors
from bannedorders.errors import OrderError

NAMES = (
    "InvalidOrder InvalidPattern InvalidList InvalidForm InvalidLetter InvalidWord InvalidKind InvalidNumber"
    " InvalidPair InvalidMachine NoMachine InvalidTape InvalidSorter InvalidSaying InvalidName NotLet UnknownName"
    " NothingToUndo Unreadable Unorderly"
).split()
VALUES = (0, None, True, "text", (), (1, 2), [1, [2]], (3, 0), -10 ** 5000)


class Errors(Checked):

    def classes(self):
        return [getattr(errors, name) for name in NAMES] + [OrderError]

    def test_there_are_just_these_classes(self):
        found = [name for name, _ in inspect.getmembers(errors, inspect.isclass)]
        self.assertEqual(sorted(found), sorted(NAMES + ["OrderError"]))
        self.assertEqual(len(NAMES), 20)
        for one in self.classes():
            self.assertEqual(one.__module__, "bannedorders.errors")

    def test_what_they_are_derived_from(self):
        self.assertEqual(OrderError.__bases__, (ValueError,))
        for name in NAMES:
            self.assertEqual(getattr(errors, name).__bases__, (OrderError,), name)

    def test_value_by_position_and_by_name(self):
        for one in self.classes():
            for value in VALUES:
                self.assertIs(one(value).value, value)
                self.assertIs(one(value=value).value, value)

    def test_one_argument(self):
        for one in self.classes():
            self.assertEqual(list(inspect.signature(one).parameters), ["value"])
            for told, named in (((), {}), ((1, 2), {}), ((), {"other": 1}), ((1,), {"value": 1})):
                with self.assertRaises(TypeError):
                    one(*told, **named)

    def test_they_are_raised_and_caught(self):
        for one in self.classes():
            for caught in (one, OrderError, ValueError):
                with self.assertRaises(caught) as held:
                    raise one((2, 2))
                self.assertEqual(held.exception.value, (2, 2))


if __name__ == "__main__":
    unittest.main()
