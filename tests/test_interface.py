"""The interface: what the sections list is defined in their files, with the arguments named there."""

import importlib
import inspect
import unittest

from checking import Checked

LISTED = {
    "patterns": {
        "is_order": "told", "is_pattern": "told", "pattern_of": "numbers", "shows": "order pattern",
        "places": "order pattern", "how_many": "order pattern", "turned": "order", "mirrored": "order",
        "inverse": "order", "parts_of": "order n", "orders": "n",
    },
    "blocks": {
        "summed": "one other", "skew_summed": "one other", "parts": "order", "skew_parts": "order",
        "blocks": "order", "is_simple": "order", "put_together": "order orders", "tree": "order",
        "from_tree": "tree",
    },
    "lists": {
        "is_list": "told", "lets": "forbidden order", "least": "forbidden", "lies_within": "one other",
        "same": "one other", "parting": "one other", "met": "one other", "joined": "one other",
        "let_of": "forbidden n", "is_finite": "forbidden", "turned_list": "forbidden", "mirrored_list": "forbidden",
        "inverse_list": "forbidden", "is_summed": "forbidden", "is_skew_summed": "forbidden",
    },
    "slots": {
        "is_form": "told", "slots": "form", "put": "form letter", "letters": "form", "led": "word",
        "word_of": "order", "order_of": "word", "widest": "order", "is_open": "forbidden form",
        "filling": "forbidden form",
    },
    "alternations": {
        "alternation": "kind n", "stops": "forbidden kind", "stopped": "forbidden", "endless": "forbidden",
        "most_slots": "forbidden",
    },
    "machines": {
        "is_machine": "told", "spells": "machine word", "machine": "forbidden", "least_machine": "machine",
        "same_words": "one other", "met_machine": "one other", "joined_machine": "one other",
        "less_machine": "one other", "words": "machine n",
    },
    "counts": {"count": "forbidden n", "counts": "forbidden n", "rule": "forbidden", "degree": "forbidden"},
    "rates": {"rate": "forbidden", "faster": "one other"},
    "ranks": {
        "nth": "forbidden n i", "place_of": "forbidden order", "next_order": "forbidden order",
        "drawn": "forbidden n tape",
    },
    "sorters": {
        "made": "sorter order", "sorts": "sorter order", "list_of": "sorter", "passes": "sorter order",
        "least_unsorted": "sorter n",
    },
    "sayings": {"is_saying": "told", "meaning": "saying", "lot_of": "saying n", "is_meant": "saying order"},
    "texts": {
        "show_number": "a", "show_order": "order", "show_list": "forbidden", "show_word": "word",
        "show_machine": "machine", "show_saying": "saying",
    },
    "readers": {
        "read_order": "text", "read_list": "text", "read_word": "text", "read_machine": "text", "read_saying": "text",
    },
}
# Of the class Console.
METHODS = {"keep": "name forbidden", "drop": "name", "undo": "", "forbidden": "name", "names": "", "order": "text"}
# Machines of the words of rising orders, of one letter or more, and of the word of one thing.
RISING = (((((1, 1), 0), ((1, 3), 1)), ()), (1,))
SINGLE = (((((1, 3), 1),), ()), (1,))
NEVER = (((),), ())
# Arguments that are right, and what is returned for them.
CALLS = (
    ("patterns", "is_order", ((1, 2),), True),
    ("patterns", "is_pattern", ((1, 2),), True),
    ("patterns", "pattern_of", ((7, 3),), (2, 1)),
    ("patterns", "shows", ((2, 1), (1,)), True),
    ("patterns", "places", ((2, 1), (1,)), [(0,), (1,)]),
    ("patterns", "how_many", ((2, 1), (1,)), 2),
    ("patterns", "turned", ((1, 3, 2),), (2, 3, 1)),
    ("patterns", "mirrored", ((1, 3, 2),), (3, 1, 2)),
    ("patterns", "inverse", ((2, 3, 1),), (3, 1, 2)),
    ("patterns", "parts_of", ((2, 3, 1), 2), [(1, 2), (2, 1)]),
    ("patterns", "orders", (2,), [(1, 2), (2, 1)]),
    ("blocks", "summed", ((1,), (2, 1)), (1, 3, 2)),
    ("blocks", "skew_summed", ((1,), (1, 2)), (3, 1, 2)),
    ("blocks", "parts", ((1, 3, 2),), ((1,), (2, 1))),
    ("blocks", "skew_parts", ((3, 1, 2),), ((1,), (1, 2))),
    ("blocks", "blocks", ((2, 1),), [(0, 1), (0, 2), (1, 2)]),
    ("blocks", "is_simple", ((2, 1),), False),
    ("blocks", "put_together", ((2, 1), ((1,), (1, 2))), (3, 1, 2)),
    ("blocks", "tree", ((2, 1),), ("skew", (("one",), ("one",)))),
    ("blocks", "from_tree", (("skew", (("one",), ("one",))),), (2, 1)),
    ("lists", "is_list", (((1, 2),),), True),
    ("lists", "lets", (((2, 1),), (1, 3, 2)), False),
    ("lists", "least", (((1, 3, 2), (2, 1)),), ((2, 1),)),
    ("lists", "lies_within", (((1, 2),), ((2, 3, 1),)), True),
    ("lists", "same", (((2, 1),), ((1, 2),)), False),
    ("lists", "parting", (((2, 1),), ((2, 1), (1, 2, 3))), (1, 2, 3)),
    ("lists", "met", (((1, 2, 3),), ((2, 1),)), ((2, 1), (1, 2, 3))),
    ("lists", "joined", (((2, 1),), ((2, 3, 1),)), ((2, 3, 1),)),
    ("lists", "let_of", (((2, 1),), 2), [(1, 2)]),
    ("lists", "is_finite", (((2, 1),),), False),
    ("lists", "turned_list", (((2, 3, 1),),), ((1, 3, 2),)),
    ("lists", "mirrored_list", (((2, 3, 1),),), ((2, 1, 3),)),
    ("lists", "inverse_list", (((2, 3, 1),),), ((3, 1, 2),)),
    ("lists", "is_summed", (((2, 1),),), True),
    ("lists", "is_skew_summed", (((2, 1),),), False),
    ("slots", "is_form", ((0, 1, 0),), True),
    ("slots", "slots", ((0, 1, 0),), 2),
    ("slots", "put", ((0, 1, 0), (2, 1)), (0, 1, 2, 0)),
    ("slots", "letters", ((1, 0),), [(1, 0), (1, 1), (1, 2), (1, 3)]),
    ("slots", "led", (((1, 2), (1, 3)),), (2, 1)),
    ("slots", "word_of", ((2, 1),), ((1, 2), (1, 3))),
    ("slots", "order_of", (((1, 2), (1, 3)),), (2, 1)),
    ("slots", "widest", ((2, 1, 3),), 2),
    ("slots", "is_open", (((1, 2),), (1, 0)), False),
    ("slots", "filling", (((1, 2),), (0, 1)), (2, 1)),
    ("alternations", "alternation", ((1, -1), 2), (1, 4, 2, 3)),
    ("alternations", "stops", (((2, 3, 1),), (1, -1)), False),
    ("alternations", "stopped", (((2, 3, 1),),), ((2, 3, 1), (2, 3, 1), None, (2, 3, 1))),
    ("alternations", "endless", (((2, 3, 1),),), (1, -1)),
    ("alternations", "most_slots", (((2, 3, 1), (1, 3, 2)),), 2),
    ("machines", "is_machine", (RISING,), True),
    ("machines", "spells", (RISING, ((1, 3),)), True),
    ("machines", "machine", (((2, 1),),), RISING),
    ("machines", "least_machine", (RISING,), RISING),
    ("machines", "same_words", (RISING, SINGLE), ((1, 1), (1, 3))),
    ("machines", "met_machine", (RISING, SINGLE), SINGLE),
    ("machines", "joined_machine", (RISING, SINGLE), RISING),
    ("machines", "less_machine", (SINGLE, RISING), NEVER),
    ("machines", "words", (RISING, 2), [((1, 1), (1, 3))]),
    ("counts", "count", (((2, 3, 1), (3, 1, 2)), 4), 8),
    ("counts", "counts", (((2, 1),), 2), [1, 1, 1]),
    ("counts", "rule", (((2, 1),),), ((1,), ((1, 1),))),
    ("counts", "degree", (((2, 1),),), 0),
    ("rates", "rate", (((2, 1),),), ((1, -1), (1, 1), (1, 1))),
    ("rates", "faster", (((1,),), ((2, 1),)), -1),
    ("ranks", "nth", (((2, 1),), 3, 0), (1, 2, 3)),
    ("ranks", "place_of", (((2, 3, 1), (3, 1, 2)), (1, 3, 2)), 2),
    ("ranks", "next_order", (((2, 3, 1), (3, 1, 2)), (1, 3, 2)), (3, 2, 1)),
    ("ranks", "drawn", (((2, 3, 1), (3, 1, 2)), 3, (1, 0, 1)), ((1, 3, 2), 2)),
    ("sorters", "made", ("bubble", (2, 3, 1)), (2, 1, 3)),
    ("sorters", "sorts", ("popper", (3, 2, 1)), True),
    ("sorters", "list_of", ("queues",), ((3, 2, 1),)),
    ("sorters", "passes", ("stack", (2, 3, 1)), 2),
    ("sorters", "least_unsorted", ("bubble", 3), [(2, 3, 1), (3, 2, 1)]),
    ("sayings", "is_saying", (("sorted", "stack"),), True),
    ("sayings", "meaning", (("turned", ("sorted", "stack")),), ((1, 3, 2),)),
    ("sayings", "lot_of", (("list", ((2, 1),)), 2), [(1, 2)]),
    ("sayings", "is_meant", (("sorted", "stack"), (2, 3, 1)), False),
    ("texts", "show_number", ((-3, 2),), "-3/2"),
    ("texts", "show_order", ((2, 1),), "2 1"),
    ("texts", "show_list", (((2, 1), (1,)),), "2 1, 1"),
    ("texts", "show_word", (((1, 0), (2, 3)),), "1m 2f"),
    ("texts", "show_machine", (RISING,), "0 : 1l 0, 1f 1\n1 end : -"),
    ("texts", "show_saying", (("sorted", "stack"),), "(sorted stack)"),
    ("readers", "read_order", ("2 1",), (2, 1)),
    ("readers", "read_list", ("2 1, 1",), ((2, 1), (1,))),
    ("readers", "read_word", ("1m 2f",), ((1, 0), (2, 3))),
    ("readers", "read_machine", ("0 : 1l 0, 1f 1\n1 end : -",), RISING),
    ("readers", "read_saying", ("(sorted stack)",), ("sorted", "stack")),
)


def found(section, name):
    return getattr(importlib.import_module("bannedorders." + section), name)


class Interface(Checked):

    def test_names_and_arguments(self):
        for section, names in LISTED.items():
            for name, arguments in names.items():
                function = found(section, name)
                self.assertTrue(inspect.isfunction(function), name)
                self.assertEqual(function.__module__, "bannedorders." + section)
                self.assertEqual(list(inspect.signature(function).parameters), arguments.split(), name)

    def test_every_listed_function_is_called_here(self):
        listed = sorted((section, name) for section, names in LISTED.items() for name in names)
        self.assertEqual(sorted((section, name) for section, name, _, _ in CALLS), listed)

    def test_by_position_and_by_name(self):
        for section, name, told, wanted in CALLS:
            function = found(section, name)
            named = dict(zip(LISTED[section][name].split(), told))
            self.same(function(*told), wanted)
            self.same(function(**named), wanted)
            self.same(function(**dict(reversed(list(named.items())))), wanted)

    def test_returned_lists_are_new(self):
        for section, name, told, wanted in CALLS:
            if isinstance(wanted, list):
                function = found(section, name)
                first = function(*told)
                self.assertIsNot(first, function(*told))
                first.append("more")
                self.same(function(*told), wanted)

    def test_empty_lists_are_new(self):
        for section, name, told in (
                ("patterns", "places", ((1,), (1, 2))), ("patterns", "parts_of", ((1,), 2)),
                ("blocks", "blocks", ((),)), ("lists", "let_of", (((1,),), 1)), ("slots", "letters", ((1,),)),
                ("machines", "words", (NEVER, 0)), ("sorters", "least_unsorted", ("stack", 2)),
                ("sayings", "lot_of", (("list", ((1,),)), 1))):
            function = found(section, name)
            function(*told).append("more")
            self.same(function(*told), [])

    def test_console(self):
        Console = found("consoles", "Console")
        self.assertTrue(inspect.isclass(Console) and Console.__module__ == "bannedorders.consoles")
        self.assertEqual(list(inspect.signature(Console).parameters), [])
        for name, arguments in METHODS.items():
            # In the class itself, not only in a base class.
            self.assertEqual(list(inspect.signature(vars(Console)[name]).parameters), ["self"] + arguments.split(), name)

    def test_console_by_position_and_by_name(self):
        for by_name in (False, True):
            console = found("consoles", "Console")()
            for name, told, wanted in (
                    ("keep", ("a", ((2, 1),)), None), ("forbidden", ("a",), ((2, 1),)), ("names", (), ["a"]),
                    ("order", ("count a 7",), "1"), ("drop", ("a",), None), ("undo", (), None), ("names", (), ["a"])):
                call = getattr(console, name)
                named = dict(reversed(list(zip(METHODS[name].split(), told))))
                self.same(call(**named) if by_name else call(*told), wanted)


if __name__ == "__main__":
    unittest.main()
