"""readers.py: what has a text, and which line cannot stand there."""

import random
import unittest

import plain
from checking import Checked, bent
from samples import DEEP, LARGE, LISTS, SAYINGS

from bannedorders.errors import Unreadable
from bannedorders.machines import is_machine, least_machine, machine, words
from bannedorders.readers import read_list, read_machine, read_order, read_saying, read_word
from bannedorders.sayings import is_saying
from bannedorders.slots import word_of
from bannedorders.texts import show_list, show_machine, show_order, show_saying, show_word

OF_ONE_LINE = (
    (read_order, show_order, plain.read_order), (read_list, show_list, plain.read_list),
    (read_word, show_word, plain.read_word), (read_saying, show_saying, plain.read_saying))
READERS = (read_order, read_list, read_word, read_saying, read_machine)
ORDERS = ((), (1,), (2, 1), (2, 4, 1, 3), (11, 1, 2, 3, 10, 4, 9, 5, 8, 6, 7))
FORBIDDEN = ((), ((1,),), ((2, 1),), ((2, 3, 1), (3, 1, 2)), ((1, 2), (1, 2), (3, 2, 1, 4), (1,)))
WORDS = ((), ((1, 3),), ((1, 0), (2, 1), (1, 2), (1, 3)), ((10, 0), (999999999, 3), (1, 1)))
MACHINES = (
    (((),), ()), (((),), (0,)), (((((1, 1), 0), ((1, 3), 1)), ()), (1,)),
    (((((1, 0), 1), ((10, 2), 0)), (((1, 3), 2),), ()), (0, 2)),
    (tuple((((1, 0), (k + 1) % 12),) for k in range(12)), (3, 11)))


class Reading(Checked):

    def check(self, reader, text, wanted):
        """What is due: (what is read, None) or (None, the number of the error)."""
        value, line = wanted
        if line is None:
            self.same(reader(text), value)
        else:
            self.refused_with(Unreadable, line, reader, text)

    def unread(self, reader, line, *texts):
        for text in texts:
            self.refused_with(Unreadable, line, reader, text)


class Read(Reading):

    def test_there_and_back(self):
        for reader, show, values in (
                (read_order, show_order, ORDERS + tuple(plain.orders_to(4))),
                (read_list, show_list, FORBIDDEN + LISTS), (read_word, show_word, WORDS),
                (read_saying, show_saying, SAYINGS + DEEP), (read_machine, show_machine, MACHINES)):
            for value in values:
                self.same(reader(show(value)), value)
                self.same(show(reader(show(value))), show(value))

    def test_what_the_program_tells(self):
        for forbidden in LISTS + (LARGE[0][0],):
            told = machine(forbidden)
            self.same(read_machine(show_machine(told)), told)
            for word in words(told, 4):
                self.same(read_word(show_word(word)), word)
        for order in plain.orders_of(5):
            self.same(read_word(show_word(word_of(order))), word_of(order))

    def test_bent_texts(self):
        """Of one line: read as the document says, or refused."""
        sayings = SAYINGS[4:20:3] + SAYINGS[-12:]
        for (reader, show, wanted), values in zip(OF_ONE_LINE, (ORDERS, FORBIDDEN, WORDS, sayings)):
            met = set()
            for value in values:
                for text in bent(show(value)):
                    due = plain.read(wanted, text)
                    met.add(due[1])
                    self.check(reader, text, due)
                    if due[1] is None:
                        self.same(show(due[0]), text)
            self.assertEqual(met, {None, 1, 2})

    def test_bent_machines(self):
        met = set()
        for value in MACHINES:
            for text in bent(show_machine(value)):
                due = plain.read_machine(text)
                met.add(due[1])
                self.check(read_machine, text, due)
                if due[1] is None:
                    self.assertTrue(is_machine(due[0]))
                    self.same(show_machine(due[0]), text)
        self.assertTrue({None, 0, 1, 2, 3, 12} <= met)

    def test_texts_by_chance(self):
        chance = random.Random(2)
        for _ in range(3000):
            text = "".join(chance.choice("12  -,m\n") for _ in range(chance.randint(0, 6)))
            for reader, _, wanted in OF_ONE_LINE:
                self.check(reader, text, plain.read(wanted, text))
            self.check(read_machine, "0 : " + text, plain.read_machine("0 : " + text))


class OneLine(Reading):

    def test_orders(self):
        self.same([read_order("-"), read_order("1"), read_order("2 4 1 3")], [(), (1,), (2, 4, 1, 3)])
        self.unread(read_order, 1, "", "0", "2", "1 1", "1 3", "2  1", " 2 1", "2 1 ", "02 1", "+1", "-1", "1,2", "1, 2",
                    "-2 -1", "1 -2", "- 1", "--", "1\t2", "1.0", "1e0", "1_0", "a", "2 1 -", "1 2 1234567890", "0 1")

    def test_lists(self):
        self.same([read_list("-"), read_list("1"), read_list("2 1, 1 2, 2 1")], [(), ((1,),), ((2, 1), (1, 2), (2, 1))])
        self.unread(read_list, 1, "", ",", "2 1,", "2 1, ", ", 2 1", "2 1,1 2", "2 1,  1 2", "2 1 , 1 2", "-, 2 1",
                    "2 1, -", "- ", "2 1, 1 1", "2 1; 1 2", "[2 1]", "2 1, 0", "-1", "2 1, -1", "-2 -1")

    def test_words(self):
        self.same([read_word("-"), read_word("1m 2f 7l 1r")], [(), ((1, 0), (2, 3), (7, 1), (1, 2))])
        self.unread(read_word, 1, "", "m", "1", "0m", "01m", "1m1f", "1m  1f", " 1m", "1m ", "1M", "1a", "1 m", "m1", "1mm",
                    "1m, 1f", "-1m", "1m -1f", "+1m", "- 1m", "1m -", "1234567890m")

    def test_integers_of_nine_and_of_ten_digits(self):
        self.same(read_word("999999999m"), ((999999999, 0),))
        self.unread(read_word, 1, "1000000000m", "0999999999m", "000000001m")
        # The first line can stand there by itself, but there is no such state.
        self.unread(read_machine, 0, "0 : 1m 999999999")
        self.unread(read_machine, 1, "0 : 1m 1000000000")
        self.unread(read_machine, 0, "0 : 999999999m 1")
        self.same(read_machine("0 : 999999999m 0"), (((((999999999, 0), 0),),), ()))

    def test_sayings(self):
        for text, wanted in (
                ("(list [-])", ("list", ())), ("(list [2 3 1, 1])", ("list", ((2, 3, 1), (1,)))),
                ("(sorted bubble)", ("sorted", "bubble")), ("(turned (sorted stack))", ("turned", ("sorted", "stack"))),
                ("(both (inverse (list [1])) (either (list [-]) (sorted popper)))",
                 ("both", ("inverse", ("list", ((1,),))), ("either", ("list", ()), ("sorted", "popper"))))):
            self.same(read_saying(text), wanted)
        self.unread(
            read_saying, 1, "", "-", "()", "(", ")", ")(", "list [2 1]", "(list)", "(list )", "(list 2 1)", "(list [])",
            "(list [2 2])", "(list [2 1]", "(list [2 1]))", "(list [2 1)", "(list [[2 1]])", "(list [2 1] )", "( list [2 1])",
            "(list  [2 1])", "(list [ 2 1])", "(list [2 1] [1 2])", "(List [2 1])", "(sorted)", "(sorted Stack)",
            "(sorted stack stack)", "(sorted (list [2 1]))", "(sorted [stack])", "(turned)", "(turned stack)",
            "(turned (sorted stack) (sorted stack))", "(turned(sorted stack))", "((sorted stack))", "(both (sorted stack))",
            "(both (sorted stack)(sorted stack))", "(both (sorted stack)  (sorted stack))", "(not (sorted stack))",
            "(either (sorted stack) (sorted stack) (sorted stack))", "(sorted stack) ", " (sorted stack)",
            "(sorted stack) (sorted stack)", "(list [2 1], [1 2])", "(list [2 1][1 2])", "(list [-, 1])",
            "(list (list [2 1]))", "(turned [2 1])", "(both (list [2 1]) [2 1])", "(list [02 1])", "(" * 3000, ")" * 3000,
            "(turned " * 3000 + "(sorted stack)")

    def test_more_lines(self):
        for reader, text in (
                (read_order, "2 1"), (read_order, "-"), (read_list, "2 1, 1"), (read_list, "-"), (read_word, "1f"),
                (read_word, "-"), (read_saying, "(sorted stack)")):
            for more in ("\n", "\n\n", "\n" + text, "\nx", "\n-"):
                self.unread(reader, 2, text + more)
                self.unread(reader, 1, " " + text + more, text + " " + more, "x" + more, "\n" + text)

    def test_empty_texts(self):
        for reader in READERS:
            self.unread(reader, 1, "", "\n", " ", "\n\n")

    def test_what_is_no_text(self):
        for reader in READERS:
            for told in (None, True, 0, 1, b"1", (), (1,), [], ["1"], {}):
                self.unread(reader, 1, told)

    def test_the_largest(self):
        chance = random.Random(1)
        order = tuple(chance.sample(range(1, 41), 40))
        self.same(self.soon(read_order, show_order(order)), order)
        told = tuple(tuple(chance.sample(range(1, n + 1), n)) for n in [40] * 20)
        self.same(self.soon(read_list, show_list(told)), told)
        word = tuple((chance.randint(1, 10 ** 9 - 1), chance.randrange(4)) for _ in range(60))
        self.same(self.soon(read_word, show_word(word)), word)
        saying, wide = ("list", told), ("list", ((2, 1),))
        for depth in range(11):
            saying = ("both", ("sorted", "stack"), saying) if depth & 1 else ("inverse", saying)
            wide = ("either", wide, wide)
        for one in (saying, wide):
            self.assertTrue(is_saying(one))
            self.same(self.soon(read_saying, show_saying(one)), one)


class Machines(Reading):

    def test_by_hand(self):
        self.same(read_machine("0 : 1l 0, 1f 1\n1 end : -"), (((((1, 1), 0), ((1, 3), 1)), ()), (1,)))
        self.same([read_machine("0 : -"), read_machine("0 end : -")], [(((),), ()), (((),), (0,))])

    def test_lines_that_cannot_stand_there(self):
        self.unread(read_machine, 1, "", "-", "0", "0 :", "0 : ", "0: -", "0 :-", "0  : -", "0 :  -", "0 : - ", " 0 : -",
                    "1 : -", "00 : -", "-0 : -", "+0 : -", "a : -", " : -", "0 End : -", "0 end: -", "0 end  : -", "0end : -",
                    "0 end end : -", "end : -", "0 end 0 : -", "0 : end", "0 : 1m", "0 : 1m  0", "0 : 1m0", "0 : 0m 0",
                    "0 : 1m 00", "0 : 1m -1", "0 : 1x 0", "0 : 1m 0,", "0 : 1m 0, ", "0 : 1m 0,1f 0", "0 : 1m 0 , 1f 0",
                    "0 : 1m 0  1f 0", "0 : 1m 0 1f 0", "0 : -, 1m 0", "0 : 1m 0, -", "0 : 1m 0 end", "0 : 1m 0 : -", "0 : - : -")
        self.unread(read_machine, 2, "0 : -\n", "0 : -\n\n1 : -", "0 : -\n0 : -", "0 : -\n2 : -", "0 : -\n1 : - ", "0 : -\n-",
                    "0 : 1m 5\n1 : 1m", "0 : -\nx\ny")
        self.unread(read_machine, 3, "0 : -\n1 : -\n", "0 : -\n1 : -\n1 : -", "0 : 1f 0, 1f 0\n1 : -\n3 : -")

    def test_the_first_line_that_cannot(self):
        """Also if what stands there by itself is wrong in the whole."""
        self.unread(read_machine, 2, "0 : 1f 0, 1m 0\n1 :\n1 :")
        self.unread(read_machine, 1, "1 : -\n0 : -", "0 :\n1 :")
        self.unread(read_machine, 4, "0 : 1m 9\n1 : -\n2 : -\n03 : -\n4 : -")

    def test_lines_that_can_but_no_machine(self):
        self.unread(read_machine, 0, "0 : 1f 0, 1m 0", "0 : 1m 0, 1m 0", "0 : 1m 0, 1m 1\n1 : -", "0 : 1m 1",
                    "0 : -\n1 : 1m 2", "0 : 2m 0, 1f 0", "0 : 10m 0, 9m 0", "0 end : 1m 0\n1 end : 1f 7")
        # As numbers, not as texts.
        self.same(read_machine("0 : 9m 0, 10m 0"), (((((9, 0), 0), ((10, 0), 0)),), ()))

    def test_ten_and_more_lines(self):
        lines = [f"{k} end : 1m {(k + 1) % 12}" for k in range(12)]
        self.same(read_machine("\n".join(lines)), (tuple((((1, 0), (k + 1) % 12),) for k in range(12)), tuple(range(12))))
        self.unread(read_machine, 11, "\n".join(lines[:10] + ["010 : -"]))
        self.unread(read_machine, 13, "\n".join(lines + [""]))

    def test_the_largest(self):
        letters = tuple((slot, way) for slot in (1, 2, 3) for way in range(4))
        chance = random.Random(3)
        rows = tuple(tuple((letter, chance.randrange(200)) for letter in letters) for _ in range(200))
        told = (rows, tuple(range(0, 200, 3)))
        text = show_machine(told)
        self.same(self.soon(read_machine, text), told)
        self.refused_with(Unreadable, 200, read_machine, text + ",")
        # What is read may be handed on.
        self.assertTrue(is_machine(self.soon(least_machine, read_machine(text))))


if __name__ == "__main__":
    unittest.main()
