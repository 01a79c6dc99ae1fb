"""[12], "ranks" of [16], and ranks.py."""

import random
import unittest
from itertools import product

import plain
from checking import NO_INTEGERS, NO_LISTS, NO_ORDERS, NO_TAPES, Checked
from samples import LARGE, LISTS, WITHOUT

from bannedorders.counts import count
from bannedorders.errors import InvalidList, InvalidNumber, InvalidOrder, InvalidPair, InvalidTape, NoMachine, NotLet
from bannedorders.lists import joined, lets, met, turned_list
from bannedorders.machines import machine, words
from bannedorders.ranks import drawn, next_order, nth, place_of
from bannedorders.slots import order_of, word_of

TWO = ((2, 3, 1), (3, 1, 2))
FINITE = ((1, 2, 3), (3, 2, 1))


class Sequence(Checked):

    def check(self, forbidden, wanted, n):
        self.same([nth(forbidden, n, i) for i in range(len(wanted))], wanted)
        self.same([place_of(forbidden, order) for order in wanted], list(range(len(wanted))))
        self.same([next_order(forbidden, order) for order in wanted], wanted[1:] + [None] * bool(wanted))

    def test_by_hand(self):
        self.check(TWO, [(2, 1, 3), (1, 2, 3), (1, 3, 2), (3, 2, 1)], 3)
        self.check(FINITE, [(2, 1), (1, 2)][::-1], 2)
        self.check(((2, 1),), [(1, 2, 3, 4)], 4)

    def test_the_edges(self):
        for forbidden in (TWO, ((1,),), FINITE):
            self.check(forbidden, [()], 0)
        self.check(TWO, [(1,)], 1)
        self.check(FINITE, [(2, 4, 1, 3), (2, 1, 4, 3), (3, 1, 4, 2), (3, 4, 1, 2)], 4)

    def test_as_the_words_say(self):
        for forbidden in LISTS:
            for n in range(5):
                self.check(forbidden, plain.ranked(forbidden, n), n)

    def test_of_the_machine(self):
        for forbidden in LISTS:
            told = machine(forbidden)
            for n in (5, 8):
                wanted = [order_of(word) for word in words(told, n)]
                for i in range(0, len(wanted), 1 + len(wanted) // 9):
                    self.same([nth(forbidden, n, i), place_of(forbidden, wanted[i])], [wanted[i], i])
                    self.same(next_order(forbidden, wanted[i]), wanted[i + 1] if i + 1 < len(wanted) else None)

    def test_lists_that_the_program_tells(self):
        one, other = ((1, 2, 3), (2, 3, 1)), ((1, 3, 2), (3, 2, 1))
        for forbidden in (met(one, other), joined(one, other), turned_list(one)):
            for n in range(6):
                self.check(forbidden, plain.ranked(forbidden, n), n)

    def test_there_and_back(self):
        chance = random.Random(3)
        for forbidden in LISTS + (LARGE[0][0],):
            many = count(forbidden, 30)
            for i in {0, chance.randrange(many), many - 1} if many else ():
                order = nth(forbidden, 30, i)
                self.assertTrue(lets(forbidden, order))
                self.same(place_of(forbidden, order), i)
                behind = next_order(forbidden, order)
                if i + 1 == many:
                    self.same(behind, None)
                else:
                    self.same([behind, place_of(forbidden, behind)], [nth(forbidden, 30, i + 1), i + 1])
                    self.assertLess(word_of(order), word_of(behind))

    def test_the_largest(self):
        for forbidden, _ in LARGE:
            many = count(forbidden, 30)
            for i in (many // 3, many - 1):
                order = self.soon(nth, forbidden, 30, i)
                self.same(self.soon(place_of, forbidden, order), i)
                behind = self.soon(next_order, forbidden, order)
                self.same(behind is None, i == many - 1)
            self.same(self.soon(drawn, forbidden, 30, (0,) * 300)[0], nth(forbidden, 30, 0))


class Draws(Checked):

    def test_by_hand(self):
        self.same([drawn(TWO, 3, (1, 1, 0)), drawn(TWO, 3, (1,)), drawn(TWO, 3, (0, 1))],
                  [((3, 2, 1), 2), None, ((1, 2, 3), 2)])
        # Of two orders one bit, of four two.
        self.same([drawn(FINITE, 2, (1,)), drawn(FINITE, 2, (0, 1))], [((2, 1), 1), ((1, 2), 1)])

    def test_one_order_takes_no_bit(self):
        for tape in ((), (0,), (1, 1, 1)):
            self.same(drawn(((2, 1),), 4, tape), ((1, 2, 3, 4), 0))
            self.same([drawn(TWO, 0, tape), drawn(((1,),), 0, tape), drawn(TWO, 1, tape)],
                      [((), 0), ((), 0), ((1,), 0)])

    def test_read_again(self):
        """Of five orders three bits: 5, 6 and 7 count for nothing."""
        five = ((2, 3, 1), (3, 1, 2), (3, 2, 1))
        self.assertEqual(count(five, 4), 5)
        last = nth(five, 4, 4)
        self.same(drawn(five, 4, (1, 0, 0)), (last, 3))
        self.same(drawn(five, 4, (1, 0, 1, 1, 0, 0)), (last, 6))
        self.same(drawn(five, 4, (1, 1, 1, 1, 1, 0, 1, 0, 0, 1)), (last, 9))
        self.same([drawn(five, 4, (1, 0, 1)), drawn(five, 4, (1, 0, 1, 1, 0)), drawn(five, 4, (1, 0))], [None] * 3)

    def test_as_the_words_say(self):
        for forbidden in LISTS:
            for n in range(5):
                orders = plain.ranked(forbidden, n)
                for bits in range(4) if orders else ():
                    for tape in product((0, 1), repeat=bits):
                        found = plain.draw(len(orders), tape)
                        self.same(drawn(forbidden, n, tape), found and (orders[found[0]], found[1]))

    def test_as_many_tapes_draw_each(self):
        for forbidden, n in ((TWO, 3), (((2, 3, 1), (3, 1, 2), (3, 2, 1)), 4), (((1, 3, 2), (3, 2, 1)), 3), (FINITE, 4)):
            for bits in range(8):
                found = [drawn(forbidden, n, tape) for tape in product((0, 1), repeat=bits)]
                many = [sum(one is not None and one[0] == order for one in found) for order in plain.lot(forbidden, n)]
                self.assertEqual(len(set(many)), 1)

    def test_long_tapes(self):
        chance = random.Random(9)
        for forbidden in LISTS:
            many = count(forbidden, 30)
            tape = tuple(chance.randrange(2) for _ in range(1000))
            if many:
                number, read = plain.draw(many, tape)
                self.same(drawn(forbidden, 30, tape), (nth(forbidden, 30, number), read))

    def test_nothing_to_draw(self):
        for forbidden, n in ((((1,),), 1), (((1,),), 30), (FINITE, 5), (((1, 2), (2, 1)), 2)):
            for tape in ((), (0, 1)):
                self.refused_with(InvalidPair, (n, 0), drawn, forbidden, n, tape)


class Wrong(Checked):

    def test_wrong_lists(self):
        for told in NO_LISTS:
            self.refused(InvalidList, told, nth, told, 3, 0)
            self.refused(InvalidList, told, place_of, told, (1, 2))
            self.refused(InvalidList, told, next_order, told, (1, 2))
            self.refused(InvalidList, told, drawn, told, 3, (0, 0))

    def test_lists_without_a_machine(self):
        for forbidden, kind in WITHOUT:
            self.refused_with(NoMachine, kind, nth, forbidden, 3, 0)
            self.refused_with(NoMachine, kind, place_of, forbidden, (1, 2))
            self.refused_with(NoMachine, kind, next_order, forbidden, (1, 2))
            self.refused_with(NoMachine, kind, drawn, forbidden, 3, (0, 0))

    def test_wrong_n(self):
        for n in NO_INTEGERS + (-1, -10 ** 30):
            self.refused(InvalidNumber, n, nth, TWO, n, 0)
            self.refused(InvalidNumber, n, drawn, TWO, n, ())
            self.refused(InvalidNumber, n, drawn, tape=(), n=n, forbidden=((1,),))

    def test_wrong_i(self):
        for i in NO_INTEGERS + (-1, 4, 5, 10 ** 30):
            self.refused(InvalidNumber, i, nth, TWO, 3, i)
        for n in (0, 1):
            self.refused(InvalidNumber, 1, nth, TWO, n, 1)
        for n in (1, 2, 30):
            self.refused(InvalidNumber, 0, nth, ((1,),), n, 0)
        self.refused(InvalidNumber, 0, nth, i=0, n=5, forbidden=FINITE)
        wrong = [0]
        self.refused(InvalidNumber, wrong, nth, TWO, 3, wrong)
        self.same(wrong, [0])

    def test_wrong_orders(self):
        for order in NO_ORDERS:
            self.refused(InvalidOrder, order, place_of, TWO, order)
            self.refused(InvalidOrder, order, next_order, TWO, order)
            self.refused(InvalidOrder, order, next_order, order=order, forbidden=((1,),))

    def test_orders_that_are_not_let(self):
        for forbidden in LISTS:
            for n in range(5):
                for order in plain.orders_of(n):
                    if not plain.lets(forbidden, order):
                        self.refused(NotLet, order, place_of, forbidden, order)
                        self.refused(NotLet, order, next_order, forbidden, order)
        order = tuple(range(30, 0, -1))
        self.refused(NotLet, order, place_of, FINITE, order)
        self.refused(NotLet, order, next_order, order=order, forbidden=((2, 1),))

    def test_wrong_tapes(self):
        for tape in NO_TAPES:
            self.refused(InvalidTape, tape, drawn, TWO, 3, tape)
            # Where no bit is read, and where nothing can be drawn, too.
            self.refused(InvalidTape, tape, drawn, TWO, 0, tape)
            self.refused(InvalidTape, tape, drawn, ((1,),), 2, tape)

    def test_several_wrong_arguments(self):
        self.refused(InvalidList, None, nth, None, -1, -1)
        self.refused(InvalidList, None, place_of, order=None, forbidden=None)
        self.refused(InvalidList, None, next_order, None, (2, 2))
        self.refused(InvalidList, None, drawn, None, -1, None)
        self.refused_with(NoMachine, (-1, -1), nth, (), -1, -1)
        self.refused_with(NoMachine, (1, -1), nth, ((2, 3, 1),), 3, 100)
        self.refused_with(NoMachine, (-1, -1), place_of, (), None)
        self.refused_with(NoMachine, (1, -1), next_order, ((2, 3, 1),), (2, 3, 1))
        self.refused_with(NoMachine, (-1, -1), drawn, (), True, [])
        self.refused_with(NoMachine, (-1, -1), drawn, (), 3, [])
        # Of one class the first from the left.
        self.refused(InvalidNumber, None, nth, TWO, None, -1)
        self.refused(InvalidNumber, -1, nth, i=True, n=-1, forbidden=TWO)
        self.refused(InvalidNumber, -1, drawn, TWO, -1, None)
        self.refused(InvalidOrder, (3, 1, 1), place_of, ((1,),), (3, 1, 1))


if __name__ == "__main__":
    unittest.main()
