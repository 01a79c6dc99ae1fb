"""The interface: what the sections list is defined in their files, with the arguments named there."""

import importlib
import inspect
import unittest

from checking import Checked

LISTED = {
    "patterns": {
        "is_order": "told", "is_pattern": "told", "pattern_of": "numbers", "shows": "order pattern",
        "places": "order pattern", "how_many": "order pattern", "turned": "order", "mirrored": "order",
        "inverse": "order", "parts_of": "order n", "orders": "n",
    },
    "blocks": {
        "summed": "one other", "skew_summed": "one other", "parts": "order", "skew_parts": "order",
        "blocks": "order", "is_simple": "order", "put_together": "order orders", "tree": "order",
        "from_tree": "tree",
    },
}
# Arguments that are right, and what is returned for them.
CALLS = (
    ("patterns", "is_order", ((1, 2),), True),
    ("patterns", "is_pattern", ((1, 2),), True),
    ("patterns", "pattern_of", ((7, 3),), (2, 1)),
    ("patterns", "shows", ((2, 1), (1,)), True),
    ("patterns", "places", ((2, 1), (1,)), [(0,), (1,)]),
    ("patterns", "how_many", ((2, 1), (1,)), 2),
    ("patterns", "turned", ((1, 3, 2),), (2, 3, 1)),
    ("patterns", "mirrored", ((1, 3, 2),), (3, 1, 2)),
    ("patterns", "inverse", ((2, 3, 1),), (3, 1, 2)),
    ("patterns", "parts_of", ((2, 3, 1), 2), [(1, 2), (2, 1)]),
    ("patterns", "orders", (2,), [(1, 2), (2, 1)]),
    ("blocks", "summed", ((1,), (2, 1)), (1, 3, 2)),
    ("blocks", "skew_summed", ((1,), (1, 2)), (3, 1, 2)),
    ("blocks", "parts", ((1, 3, 2),), ((1,), (2, 1))),
    ("blocks", "skew_parts", ((3, 1, 2),), ((1,), (1, 2))),
    ("blocks", "blocks", ((2, 1),), [(0, 1), (0, 2), (1, 2)]),
    ("blocks", "is_simple", ((2, 1),), False),
    ("blocks", "put_together", ((2, 1), ((1,), (1, 2))), (3, 1, 2)),
    ("blocks", "tree", ((2, 1),), ("skew", (("one",), ("one",)))),
    ("blocks", "from_tree", (("skew", (("one",), ("one",))),), (2, 1)),
)


def found(section, name):
    return getattr(importlib.import_module("bannedorders." + section), name)


class Interface(Checked):

    def test_names_and_arguments(self):
        for section, names in LISTED.items():
            for name, arguments in names.items():
                function = found(section, name)
                self.assertTrue(inspect.isfunction(function), name)
                self.assertEqual(function.__module__, "bannedorders." + section)
                self.assertEqual(list(inspect.signature(function).parameters), arguments.split(), name)

    def test_every_listed_function_is_called_here(self):
        listed = sorted((section, name) for section, names in LISTED.items() for name in names)
        self.assertEqual(sorted((section, name) for section, name, _, _ in CALLS), listed)

    def test_by_position_and_by_name(self):
        for section, name, told, wanted in CALLS:
            function = found(section, name)
            named = dict(zip(LISTED[section][name].split(), told))
            self.same(function(*told), wanted)
            self.same(function(**named), wanted)
            self.same(function(**dict(reversed(list(named.items())))), wanted)

    def test_returned_lists_are_new(self):
        for section, name, told, wanted in CALLS:
            if isinstance(wanted, list):
                function = found(section, name)
                first = function(*told)
                self.assertIsNot(first, function(*told))
                first.append("more")
                self.same(function(*told), wanted)

    def test_empty_lists_are_new(self):
        for section, name, told in (
                ("patterns", "places", ((1,), (1, 2))), ("patterns", "parts_of", ((1,), 2)),
                ("blocks", "blocks", ((),))):
            function = found(section, name)
            function(*told).append("more")
            self.same(function(*told), [])


if __name__ == "__main__":
    unittest.main()
