"""texts.py: the texts of what [3], [4], [7], [10], [11] and [15] tell of."""

import unittest

import plain
from checking import Checked
from samples import LISTS

from bannedorders.counts import rule
from bannedorders.machines import machine
from bannedorders.rates import rate
from bannedorders.slots import word_of
from bannedorders.texts import show_list, show_machine, show_number, show_order, show_saying, show_word

RISING = (((((1, 1), 0), ((1, 3), 1)), ()), (1,))


class Texts(Checked):

    def test_numbers(self):
        self.same([show_number(a) for a in ((0, 1), (7, 1), (-7, 1), (3, 2), (-3, 2), (1, 1024))],
                  ["0", "7", "-7", "3/2", "-3/2", "1/1024"])
        long = 10 ** 299
        self.same(show_number((-long, 1)), "-1" + "0" * 299)
        self.same(show_number((1, long)), "1/1" + "0" * 299)

    def test_orders(self):
        self.same([show_order(order) for order in ((), (1,), (2, 1), (10, 9, 8, 7, 6, 5, 4, 3, 2, 1))],
                  ["-", "1", "2 1", "10 9 8 7 6 5 4 3 2 1"])
        self.same(show_order(tuple(range(1, 41))), " ".join(str(number) for number in range(1, 41)))

    def test_lists(self):
        self.same([show_list(told) for told in ((), ((1,),), ((2, 3, 1), (3, 1, 2)), ((2, 1), (1, 2), (2, 1)))],
                  ["-", "1", "2 3 1, 3 1 2", "2 1, 1 2, 2 1"])

    def test_words(self):
        self.same([show_word(word) for word in ((), ((1, 3),), ((1, 0), (2, 1), (12, 2), (1, 3)))],
                  ["-", "1f", "1m 2l 12r 1f"])
        self.same(show_word(word_of((2, 1, 3))), "1m 1f 1f")
        self.same(show_word(((2, 0),) * 60), " ".join(["2m"] * 60))

    def test_machines(self):
        self.same(show_machine(RISING), "0 : 1l 0, 1f 1\n1 end : -")
        self.same([show_machine((((),), ())), show_machine((((),), (0,)))], ["0 : -", "0 end : -"])
        told = (((((1, 0), 1), ((1, 2), 0), ((11, 3), 1)), (((3, 1), 1),)), (0, 1))
        self.same(show_machine(told), "0 end : 1m 1, 1r 0, 11f 1\n1 end : 3l 1")

    def test_sayings(self):
        for saying, wanted in (
                (("list", ()), "(list [-])"), (("list", ((1,),)), "(list [1])"),
                (("list", ((2, 3, 1), (2, 1))), "(list [2 3 1, 2 1])"), (("sorted", "queues"), "(sorted queues)"),
                (("turned", ("list", ((2, 1),))), "(turned (list [2 1]))"),
                (("both", ("sorted", "stack"), ("inverse", ("list", ()))), "(both (sorted stack) (inverse (list [-])))"),
                (("either", ("mirrored", ("sorted", "bubble")), ("sorted", "popper")),
                 "(either (mirrored (sorted bubble)) (sorted popper))")):
            self.same(show_saying(saying), wanted)

    def test_what_the_program_tells(self):
        self.same([show_number(number) for number in rate(((2, 3, 1), (3, 1, 2)))[1:]], ["2", "2"])
        self.same([show_number(number) for number in rule(((1, 3, 2), (3, 2, 1)))[1]], ["3", "-3", "1"])
        for forbidden in LISTS:
            rows, ends = machine(forbidden)
            lines = show_machine((rows, ends)).split("\n")
            self.assertEqual(len(lines), len(rows))
            for state, line in enumerate(lines):
                self.same(plain.read_row(line, state), (rows[state], state in ends))

    def test_the_largest(self):
        letters = tuple((slot, way) for slot in (1, 2, 3) for way in range(4))
        rows = tuple(tuple((letter, (7 * k) % 200) for letter in letters) for k in range(200))
        text = self.soon(show_machine, (rows, tuple(range(200))))
        self.assertEqual(text.count("\n"), 199)
        self.assertTrue(text.endswith("199 end : " + ", ".join(f"{s}{'mlrf'[way]} 193" for s, way in letters)))
        saying = ("sorted", "popper")
        for _ in range(11):
            saying = ("both", saying, saying)
        self.same(self.soon(show_saying, saying).count("popper"), 2 ** 11)


if __name__ == "__main__":
    unittest.main()
