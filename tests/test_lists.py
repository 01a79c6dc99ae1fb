"""[4], [5] of lists, "least lists" and "ends at all" of [16], and lists.py."""

import unittest
from itertools import combinations, product

import plain
from checking import NO_INTEGERS, NO_LISTS, NO_ORDERS, Checked

from bannedorders.errors import InvalidList, InvalidNumber, InvalidOrder
from bannedorders.lists import (
    inverse_list, is_finite, is_list, is_skew_summed, is_summed, joined, least, let_of, lets, lies_within, met,
    mirrored_list, parting, same, turned_list)

OF_ONE = (
    least, is_finite, turned_list, mirrored_list, inverse_list, is_summed, is_skew_summed,
    lambda told: lets(told, (1,)), lambda told: let_of(told, 1))
OF_TWO = (lies_within, same, parting, met, joined)
FIVES = (
    (2, 5, 1, 3, 4), (3, 5, 1, 4, 2), (2, 4, 1, 3, 5), (5, 1, 2, 4, 3), (1, 2, 3, 4, 5), (4, 2, 5, 1, 3))
# Lists that are not least, too: patterns twice, patterns that show others, patterns in any sequence.
LISTS = (
    (), ((1,),), ((1, 2),), ((2, 1),), ((1, 2), (2, 1)), ((1,), (1,)), ((2, 1), (1,)), ((1, 2, 3), (2, 1)),
    ((2, 3, 1),), ((3, 2, 1), (1, 2, 3)), ((3, 1, 2), (2, 3, 1)), ((2, 3, 1), (1, 3, 4, 2), (2, 3, 1)),
    ((1, 3, 2), (2, 1, 3), (2, 3, 1), (3, 1, 2)), ((3, 2, 1), (2, 1, 3), (1, 3, 2)), ((2, 4, 1, 3), (3, 1, 4, 2)),
    ((1, 2, 3, 4), (3, 2, 1)), ((4, 3, 2, 1), (1, 2, 3), (4, 3, 2, 1), (1, 2, 3, 4)), ((2, 1, 4, 3),),
    ((3, 4, 1, 2), (1, 2)), ((1, 2, 3), (1, 3, 2), (2, 1, 3), (2, 3, 1), (3, 1, 2), (3, 2, 1)),
    ((2, 1, 3), (2, 1, 4, 3), (1, 2, 3)), ((4, 1, 2, 3), (2, 3, 1)),
)
THREES = tuple(
    patterns for k in range(4) for patterns in combinations(plain.orders_of(3), k))[::2] + (
    ((1,),), ((1, 2),), ((2, 1),), ((2, 1), (1, 2)), ((2, 1), (1, 2, 3)), ((3, 1, 2), (1, 2), (3, 1, 2)))


def lot_of(forbidden):
    """Orders of up to five things tell lists apart that have patterns of up to five."""
    return plain.lot_to(forbidden, 5)


class IsList(Checked):

    def test_lists(self):
        for told in LISTS + THREES + (FIVES, (tuple(range(1, 13)),) * 7):
            self.same(is_list(told), True)

    def test_what_is_none(self):
        for told in NO_LISTS:
            self.same(is_list(told), False)


class Lets(Checked):

    def test_by_hand(self):
        self.same(lets(((2, 3, 1),), (2, 4, 1, 3)), False)
        self.same(lets(((2, 3, 1),), (3, 1, 2)), True)

    def test_the_edges(self):
        self.same([lets((), ()), lets((), (2, 1)), lets(((1,),), ()), lets(((1,),), (1,))], [True, True, True, False])

    def test_as_the_words_say(self):
        for forbidden, order in product(LISTS, plain.orders_to(5)):
            self.same(lets(forbidden, order), plain.lets(forbidden, order))

    def test_the_largest(self):
        order = (7, 2, 12, 5, 9, 1, 11, 4, 8, 3, 10, 6)
        self.same(self.soon(lets, FIVES, order), plain.lets(FIVES, order))
        rising = tuple(range(1, 13))
        self.same([self.soon(lets, FIVES, rising), self.soon(lets, FIVES[:4], rising)], [False, True])

    def test_wrong_orders(self):
        for told in NO_ORDERS:
            self.refused(InvalidOrder, told, lets, (), told)
            self.refused(InvalidOrder, told, lets, order=told, forbidden=((1,),))

    def test_several_wrong_arguments(self):
        self.refused(InvalidList, None, lets, None, (2,))
        told = [(1,)]
        self.refused(InvalidList, told, lets, order=None, forbidden=told)


class Least(Checked):

    def test_by_hand(self):
        self.same(least(((2, 3, 1), (1, 3, 4, 2), (2, 3, 1))), ((2, 3, 1),))
        self.same(least(((2, 1, 3, 4), (3, 2, 1), (1, 2, 4, 3), (1, 3, 2))), ((1, 3, 2), (3, 2, 1), (2, 1, 3, 4)))

    def test_the_edges(self):
        self.same(least(()), ())
        self.same(least(((1,),)), ((1,),))
        self.same(least(((3, 1, 2), (1,), (2, 1), (1,))), ((1,),))

    def test_as_the_words_say(self):
        for forbidden in LISTS + THREES + (FIVES,):
            found = least(forbidden)
            self.same(found, plain.least(forbidden))
            self.assertEqual(lot_of(found), lot_of(forbidden))

    def test_any_sequence(self):
        for forbidden in LISTS:
            self.same(least(forbidden[::-1] + forbidden), least(forbidden))

    def test_one_lot_exactly_if_one_least_list(self):
        for one, other in product(LISTS, repeat=2):
            self.assertEqual(least(one) == least(other), lot_of(one) == lot_of(other))


class Compared(Checked):

    def check(self, one, other):
        lot, another = lot_of(one), lot_of(other)
        within = all(order in set(another) for order in lot)
        apart = [order for order in plain.orders_to(5) if (order in set(lot)) != (order in set(another))]
        self.same(lies_within(one, other), within)
        self.same(same(one, other), lot == another)
        self.same(parting(one, other), apart[0] if apart else None)

    def test_by_hand(self):
        self.same([lies_within(((1, 2),), ((2, 3, 1),)), lies_within(((2, 3, 1),), ((1, 2),))], [True, False])
        self.same([same(((2, 1), (2, 1, 3)), ((2, 1),)), same(((2, 1),), ((1, 2),))], [True, False])
        self.same(parting(((2, 3, 1), (1, 2, 3, 4)), ((2, 3, 1), (4, 3, 2, 1))), (1, 2, 3, 4))

    def test_the_edges(self):
        self.same([lies_within((), ()), same((), ()), parting((), ())], [True, True, None])
        self.same([lies_within(((1,),), ()), lies_within((), ((1,),)), parting((), ((1,),))], [True, False, (1,)])

    def test_as_the_words_say(self):
        for one, other in product(LISTS, repeat=2):
            self.check(one, other)

    def test_the_largest(self):
        self.same(self.soon(parting, FIVES, FIVES[::-1]), None)
        self.same(self.soon(parting, FIVES, FIVES[:4]), (1, 2, 3, 4, 5))
        self.same(self.soon(lies_within, FIVES, FIVES[1:]), True)
        self.same(self.soon(same, FIVES, FIVES[1:]), False)


class MetAndJoined(Checked):

    def check(self, one, other, most):
        in_one, in_other = set(plain.lot_to(one, most)), set(plain.lot_to(other, most))
        both, either = met(one, other), joined(one, other)
        for found, wanted in ((both, in_one & in_other), (either, in_one | in_other)):
            self.same(found, plain.least(found))
            self.assertEqual(set(plain.lot_to(found, most)), wanted)

    def test_by_hand(self):
        self.same(met(((2, 3, 1),), ((1, 2), (3, 2, 1))), ((1, 2), (3, 2, 1)))
        self.same(joined(((1, 2),), ((2, 1),)), ((1, 3, 2), (2, 1, 3), (2, 3, 1), (3, 1, 2)))
        self.same(joined(((2, 3, 1),), ((2, 1),)), ((2, 3, 1),))

    def test_the_edges(self):
        self.same([met((), ()), joined((), ()), met((), ((1,),)), joined((), ((1,),))], [(), (), ((1,),), ()])
        self.same([joined(((1,),), ((1,),)), joined(((1,),), ((2, 1),))], [((1,),), ((2, 1),)])

    def test_as_the_words_say(self):
        for one, other in product(THREES, repeat=2):
            self.check(one, other, 5)

    def test_patterns_of_each_that_share_nothing(self):
        """Patterns of six things stand in some lists that are joined: one of each list side by side."""
        for one, other in (
                (((1, 2, 3),), ((3, 2, 1),)), (((1, 2, 3),), ((1, 3, 2), (2, 1, 3))), (((2, 3, 1),), ((3, 1, 2),)),
                (plain.orders_of(3)[:4], plain.orders_of(3)[2:]), (((1, 2, 3), (3, 2, 1)), ((2, 1, 3), (2, 3, 1)))):
            self.check(one, other, 7)
        self.assertIn((2, 3, 1, 6, 4, 5), joined(((2, 3, 1),), ((3, 1, 2),)))

    def test_the_largest(self):
        one, other = plain.orders_of(3)[:4], plain.orders_of(3)[:1:-1]
        self.same(self.soon(joined, one, other), self.soon(joined, other, one))
        self.same(self.soon(met, FIVES, FIVES[::-1]), plain.least(FIVES))
        # What is told may be handed in again.
        many = self.soon(joined, ((1, 2, 3),), ((3, 2, 1),))
        self.assertEqual(len(many), 36)
        self.same([self.soon(least, many), self.soon(met, many, many[:5])], [many, many])
        self.same([self.soon(parting, many, many), self.soon(is_finite, many)], [None, False])


class LetOf(Checked):

    def test_by_hand(self):
        self.same(let_of(((2, 3, 1), (1, 2)), 3), [(3, 2, 1)])
        self.same(let_of(((2, 3, 1),), 3), [(1, 2, 3), (1, 3, 2), (2, 1, 3), (3, 1, 2), (3, 2, 1)])

    def test_the_edges(self):
        for forbidden in LISTS:
            self.same(let_of(forbidden, 0), [()])
        self.same([let_of(((1,),), 1), let_of(((1,),), 5), let_of((), 1)], [[], [], [(1,)]])
        self.same(let_of(((1, 2), (2, 1)), 2), [])

    def test_as_the_words_say(self):
        for forbidden in LISTS + (FIVES, FIVES[:1], FIVES[1:4]):
            for n in range(7):
                self.same(let_of(forbidden, n), plain.lot(forbidden, n))

    def test_the_largest(self):
        self.same(self.soon(let_of, (), 7), list(plain.orders_of(7)))
        self.same(self.soon(let_of, FIVES, 7), plain.lot(FIVES, 7))

    def test_returned_lists_are_new(self):
        for forbidden, n in (((), 0), (((1,),), 1), (((2, 3, 1),), 3)):
            first = let_of(forbidden, n)
            wanted = list(first)
            first.append("more")
            self.same(let_of(forbidden, n), wanted)

    def test_wrong_n(self):
        for n in NO_INTEGERS + (-1, -10 ** 30):
            self.refused(InvalidNumber, n, let_of, (), n)
            self.refused(InvalidNumber, n, let_of, n=n, forbidden=((1,),))

    def test_several_wrong_arguments(self):
        self.refused(InvalidList, None, let_of, None, -1)
        self.refused(InvalidList, ((),), let_of, n=True, forbidden=((),))


class IsFinite(Checked):

    def test_by_hand(self):
        self.same(is_finite(((1, 2, 3), (2, 1))), True)
        self.same([is_finite(((1, 2, 3),)), is_finite(((3, 2, 1), (2, 3, 1))), is_finite(())], [False, False, False])

    def test_one_thing_counts_as_both(self):
        self.same([is_finite(((1,),)), is_finite(((2, 3, 1), (1,)))], [True, True])

    def test_as_the_words_say(self):
        """Without a rising one of a things and a falling one of b no order of more than (a - 1) (b - 1) is let."""
        for forbidden in LISTS + THREES:
            rising = [len(pattern) for pattern in forbidden if pattern == tuple(range(1, len(pattern) + 1))]
            falling = [len(pattern) for pattern in forbidden if pattern == tuple(range(len(pattern), 0, -1))]
            self.same(is_finite(forbidden), bool(rising and falling))
            if rising and falling:
                self.same(let_of(forbidden, (min(rising) - 1) * (min(falling) - 1) + 1), [])
            else:
                self.assertNotEqual(let_of(forbidden, 7), [])

    def test_the_largest(self):
        self.same(self.soon(is_finite, FIVES + ((5, 4, 3, 2, 1),)), True)


class Turning(Checked):

    def test_by_hand(self):
        self.same(turned_list(((2, 3, 1), (1, 2, 4, 3))), ((1, 3, 2), (3, 4, 2, 1)))
        self.same(mirrored_list(((2, 3, 1), (1, 2, 4, 3))), ((2, 1, 3), (4, 3, 1, 2)))
        self.same(inverse_list(((2, 3, 1), (1, 2, 4, 3))), ((3, 1, 2), (1, 2, 4, 3)))

    def test_the_edges(self):
        for call in (turned_list, mirrored_list, inverse_list):
            self.same([call(()), call(((1,),)), call(((2, 1, 3), (1,)))], [(), ((1,),), ((1,),)])

    def test_as_the_words_say(self):
        for forbidden in LISTS:
            lot = lot_of(forbidden)
            for call, made in (
                    (turned_list, {order[::-1] for order in lot}),
                    (mirrored_list, {tuple(len(order) + 1 - number for number in order) for order in lot}),
                    (inverse_list, {
                        tuple(order.index(i) + 1 for i in range(1, len(order) + 1)) for order in lot})):
                found = call(forbidden)
                self.same(found, plain.least(found))
                self.assertEqual(set(lot_of(found)), made)
                self.same(call(found), least(forbidden))


class Summed(Checked):

    def test_by_hand(self):
        self.same([is_summed(((2, 1),)), is_summed(((1, 2),)), is_summed(((2, 3, 1),))], [True, False, True])
        self.same([is_skew_summed(((2, 1),)), is_skew_summed(((1, 2),)), is_skew_summed(((2, 3, 1),))],
                  [False, True, False])

    def test_the_edges(self):
        for call in (is_summed, is_skew_summed):
            self.same([call(()), call(((1,),))], [True, True])
        # The patterns that show others do not count.
        self.same(is_summed(((2, 1), (1, 2, 4, 3))), True)
        self.same(is_skew_summed(((1, 2), (4, 3, 1, 2))), True)

    def test_as_the_words_say(self):
        for forbidden in LISTS + THREES:
            # A sum that is not let shows a pattern of at most four things, so parts of three are enough.
            pairs = list(product(plain.lot_to(forbidden, 3), repeat=2))
            for call, add in ((is_summed, plain.summed), (is_skew_summed, plain.skew_summed)):
                self.same(call(forbidden), all(plain.lets(forbidden, add(one, other)) for one, other in pairs))


class WrongLists(Checked):

    def test_of_one(self):
        for call in OF_ONE:
            for told in NO_LISTS:
                self.refused(InvalidList, told, call, told)

    def test_by_name(self):
        for call in OF_ONE[:7]:
            self.refused(InvalidList, None, call, forbidden=None)
        for call in OF_TWO:
            self.refused(InvalidList, None, call, other=((1,), ()), one=None)

    def test_of_two(self):
        for call in OF_TWO:
            for told in NO_LISTS:
                self.refused(InvalidList, told, call, told, ((1,),))
                self.refused(InvalidList, told, call, ((1,),), told)
                self.refused(InvalidList, told, call, told, ((2,),))

    def test_wrong_lists_stay_as_they_are(self):
        told = [(2, 1), (1,)]
        for call in OF_ONE:
            self.refused(InvalidList, told, call, told)
        for call in OF_TWO:
            self.refused(InvalidList, told, call, told, told)
        self.same(told, [(2, 1), (1,)])


if __name__ == "__main__":
    unittest.main()
