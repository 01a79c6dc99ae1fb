"""[2], [3], the first part of [5], "shown" of [16], and patterns.py."""

import unittest
from itertools import combinations, permutations

from checking import NO_INTEGERS, NO_ORDERS, Checked

from bannedorders.errors import InvalidNumber, InvalidOrder, InvalidPattern
from bannedorders.patterns import (
    how_many, inverse, is_order, is_pattern, mirrored, orders, parts_of, pattern_of, places, shows, turned)

RISING = tuple(range(1, 13))
NO_NUMBERS = (
    None, True, 0, "", "12", b"\x01", {}, {1}, [], [3, 1], (1, 1), (3, 0, 3), (True,), (True, 2), (1, False),
    (1.5,), (1, 2.0), ("1",), (None,), ((1,),), ([1],), (1, []),
)


def all_orders(most):
    return [order for n in range(most + 1) for order in permutations(range(1, n + 1))]


def compares(numbers, pattern):
    """As [3] says it: each two of the numbers compare as the pattern's do."""
    pairs = list(combinations(range(len(pattern)), 2))
    return all((numbers[i] < numbers[j]) == (pattern[i] < pattern[j]) for i, j in pairs)


def places_by_the_words(order, pattern):
    rows = combinations(range(len(order)), len(pattern))
    return [row for row in rows if compares([order[place] for place in row], pattern)]


class Orders(Checked):

    def test_orders_are_orders(self):
        for order in all_orders(5) + [RISING, RISING[::-1], tuple(range(1, 41))]:
            self.same(is_order(order), True)
            self.same(is_pattern(order), order != ())

    def test_every_little_tuple(self):
        for n in range(4):
            right = 0
            for told in permutations((-1, 0, 1, 2, 3, 4), n):
                right += is_order(told)
                self.same(is_order(told), set(told) == set(range(1, n + 1)))
            self.assertEqual(right, (1, 1, 2, 6)[n])

    def test_what_is_none(self):
        for told in NO_ORDERS:
            self.same(is_order(told), False)
            self.same(is_pattern(told), False)
        self.same(is_pattern(()), False)

    def test_tuples_beyond_the_bounds(self):
        self.same(is_order(tuple(range(1, 200)) + (10 ** 5000,)), False)
        self.same(is_order(tuple(range(200, 0, -1))), True)

    def test_all_orders(self):
        self.same(orders(0), [()])
        self.same(orders(1), [(1,)])
        self.same(orders(2), [(1, 2), (2, 1)])
        self.same(orders(3), [(1, 2, 3), (1, 3, 2), (2, 1, 3), (2, 3, 1), (3, 1, 2), (3, 2, 1)])
        many = 1
        for n in range(1, 8):
            many *= n
            found = orders(n)
            self.assertEqual(len(found), many)
            self.assertEqual(found, sorted(found))
            self.assertEqual(len(set(found)), many)
            self.assertTrue(all(is_order(order) and len(order) == n for order in found))

    def test_wrong_n_of_orders(self):
        for n in NO_INTEGERS + (-1, -10 ** 30):
            self.refused(InvalidNumber, n, orders, n)
        self.refused(InvalidNumber, -1, orders, n=-1)


class PatternOf(Checked):

    def test_orders_are_their_own(self):
        for order in all_orders(5):
            self.same(pattern_of(order), order)

    def test_numbers(self):
        for numbers, wanted in (
                ((), ()), ((-7,), (1,)), ((0, -1), (2, 1)), ((5, -2, 9), (2, 1, 3)),
                ((10 ** 40, -10 ** 40, 0, 3), (4, 1, 2, 3)), ((100, 50, 75, 60), (4, 1, 3, 2))):
            self.same(pattern_of(numbers), wanted)

    def test_every_little_tuple(self):
        for n in range(5):
            for numbers in permutations((-3, -1, 0, 4, 9), n):
                order = pattern_of(numbers)
                self.same(is_order(order), True)
                self.assertTrue(len(order) == n and compares(numbers, order))

    def test_wrong_numbers(self):
        for numbers in NO_NUMBERS:
            self.refused(InvalidOrder, numbers, pattern_of, numbers)
        self.refused(InvalidOrder, None, pattern_of, numbers=None)


class Showing(Checked):

    def test_as_the_words_say(self):
        patterns = all_orders(4)[1:]
        for order in all_orders(5):
            for pattern in patterns:
                wanted = places_by_the_words(order, pattern)
                self.same(places(order, pattern), wanted)
                self.same(how_many(order, pattern), len(wanted))
                self.same(shows(order, pattern), bool(wanted))

    def test_long_orders_and_patterns(self):
        order = (7, 2, 12, 5, 9, 1, 11, 4, 8, 3, 10, 6)
        for pattern in ((1, 2, 3, 4, 5), (2, 5, 3, 1, 4), (5, 4, 3, 2, 1), (3, 1, 5, 2, 4), order):
            wanted = places_by_the_words(order, pattern)
            self.same(places(order, pattern), wanted)
            self.same(how_many(order, pattern), len(wanted))
            self.same(shows(order, pattern), bool(wanted))

    def test_rising_and_falling(self):
        self.same(how_many(RISING, (1, 2, 3, 4, 5)), 792)
        self.same(how_many(RISING, (2, 1)), 0)
        self.same(how_many(RISING[::-1], (5, 4, 3, 2, 1)), 792)
        self.same(shows(RISING[::-1], (1, 2)), False)

    def test_the_edges(self):
        self.same(places((), (1,)), [])
        self.same([how_many((), (1,)), shows((), (1,))], [0, False])
        self.same(places((1,), (1,)), [(0,)])
        self.same([how_many((1,), (1,)), shows((1,), (1,))], [1, True])
        self.same(places((1,), (1, 2)), [])
        self.same(places((2, 1, 3), (1,)), [(0,), (1,), (2,)])
        self.same(places((2, 1, 3), (2, 1, 3)), [(0, 1, 2)])
        self.same(shows((1, 2), (1, 2, 3)), False)

    def test_wrong_arguments(self):
        for call in (shows, places, how_many):
            for told in NO_ORDERS:
                self.refused(InvalidOrder, told, call, told, (1, 2))
                self.refused(InvalidPattern, told, call, (1, 2), told)
            self.refused(InvalidPattern, (), call, (1, 2), ())
            self.refused(InvalidPattern, (), call, order=(), pattern=())

    def test_several_wrong_arguments(self):
        for call in (shows, places, how_many):
            self.refused(InvalidOrder, None, call, None, ())
            self.refused(InvalidOrder, (2,), call, pattern=(3,), order=(2,))

    def test_wrong_lists_stay_as_they_are(self):
        told = [2, 1]
        for call in (shows, places, how_many):
            self.refused(InvalidOrder, told, call, told, told)
        self.same(told, [2, 1])


class Turning(Checked):

    def test_by_hand(self):
        order = (3, 1, 4, 5, 2)
        self.same(turned(order), (2, 5, 4, 1, 3))
        self.same(mirrored(order), (3, 5, 2, 1, 4))
        self.same(inverse(order), (2, 5, 1, 3, 4))

    def test_the_edges(self):
        for call in (turned, mirrored, inverse):
            self.same(call(()), ())
            self.same(call((1,)), (1,))

    def test_as_the_words_say(self):
        for order in all_orders(5) + [(7, 2, 12, 5, 9, 1, 11, 4, 8, 3, 10, 6)]:
            n = len(order)
            self.same(turned(order), tuple(order[n - 1 - place] for place in range(n)))
            self.same(mirrored(order), tuple(n + 1 - number for number in order))
            found = inverse(order)
            self.assertEqual(len(found), n)
            for i in range(1, n + 1):
                self.assertEqual(order[found[i - 1] - 1], i)
            self.same(inverse(found), order)

    def test_wrong_orders(self):
        for call in (turned, mirrored, inverse):
            for told in NO_ORDERS:
                self.refused(InvalidOrder, told, call, told)


class Parts(Checked):

    def test_by_hand(self):
        self.same(parts_of((2, 4, 1, 3), 3), [(1, 3, 2), (2, 1, 3), (2, 3, 1), (3, 1, 2)])
        self.same(parts_of((2, 4, 1, 3), 2), [(1, 2), (2, 1)])
        self.same(parts_of(RISING, 5), [(1, 2, 3, 4, 5)])

    def test_the_edges(self):
        for order in ((), (1,), (2, 1), RISING):
            self.same(parts_of(order, 0), [()])
        self.same(parts_of((), 1), [])
        self.same(parts_of((1,), 1), [(1,)])
        self.same(parts_of((2, 1), 3), [])
        self.same(parts_of((2, 1), 10 ** 30), [])
        self.same(parts_of((2, 3, 1), 3), [(2, 3, 1)])

    def test_just_what_is_shown(self):
        for order in all_orders(5) + [(7, 2, 12, 5, 9, 1, 11, 4, 8, 3, 10, 6)]:
            for n in range(1, 5):
                wanted = [part for part in permutations(range(1, n + 1)) if places_by_the_words(order, part)]
                self.same(parts_of(order, n), wanted)

    def test_wrong_arguments(self):
        for told in NO_ORDERS:
            self.refused(InvalidOrder, told, parts_of, told, 1)
        for n in NO_INTEGERS + (-1, -10 ** 30):
            self.refused(InvalidNumber, n, parts_of, (2, 1), n)
            self.refused(InvalidNumber, n, parts_of, (), n)

    def test_several_wrong_arguments(self):
        self.refused(InvalidOrder, None, parts_of, None, -1)
        self.refused(InvalidOrder, (0,), parts_of, n=True, order=(0,))


if __name__ == "__main__":
    unittest.main()
