"""[9] and alternations.py."""

import unittest
from itertools import combinations

import plain
from checking import NO_INTEGERS, NO_KINDS, NO_LISTS, Checked

from bannedorders.alternations import alternation, endless, most_slots, stopped, stops
from bannedorders.errors import InvalidKind, InvalidList, InvalidNumber
from bannedorders.lists import let_of, lets

KINDS = ((-1, -1), (-1, 1), (1, -1), (1, 1))
FIVES = (
    (1, 5, 4, 3, 2), (2, 3, 4, 1, 5), (2, 3, 5, 4, 1), (2, 4, 5, 1, 3), (2, 5, 1, 4, 3), (5, 1, 4, 2, 3))
LISTS = (
    (), ((1,),), ((1, 2),), ((2, 1),), ((2, 3, 1),), ((1, 3, 2),), ((2, 1, 3),), ((3, 1, 2),), ((1, 2, 3),),
    ((3, 2, 1),), ((2, 3, 1), (1, 3, 2)), ((1, 2, 3), (3, 2, 1)), ((4, 3, 2, 1), (1, 2, 3)), ((2, 4, 1, 3),),
    ((2, 4, 1, 3), (3, 1, 4, 2)), ((1, 2, 3, 4), (4, 3, 2, 1)), ((3, 5, 1, 4, 2), (2, 3, 1)), ((2, 1, 4, 3), (1, 2)),
    ((3, 1, 2), (1, 2, 3, 4), (3, 1, 2)), ((4, 1, 3, 2), (2, 3, 1), (4, 1, 3, 2)), ((2, 3, 1), (1, 2, 5, 3, 4)),
    FIVES, FIVES[3:],
)


def shown(kind, n, pattern):
    return pattern in plain.patterns_in(plain.alternation(kind, n))


def highs_and_lows(forbidden, most):
    """How many slots forms of slots and numbers by turns can have that are open, each filled by one number."""
    found, many = [()], 0
    while found and many < most:
        longer = []
        for order in found:
            low, high = len(order) // 2, (len(order) + 1) // 2
            # All highs are greater than all lows; a low and then a high is added behind.
            for a in range(1, low + 2) if order else [0]:
                row = tuple(number + (number >= a) for number in order) + (a,) if a else ()
                for b in range(len(row) - high + 1, len(row) + 2):
                    more = tuple(number + (number >= b) for number in row) + (b,)
                    if lets(forbidden, more):
                        longer.append(more)
        found = longer
        many += bool(found)
    return many


class Alternation(Checked):

    def test_by_hand(self):
        self.same([alternation(kind, 3) for kind in KINDS], [
            (3, 6, 2, 5, 1, 4), (3, 4, 2, 5, 1, 6), (1, 6, 2, 5, 3, 4), (1, 4, 2, 5, 3, 6)])

    def test_the_edges(self):
        for kind in KINDS:
            self.same([alternation(kind, 0), alternation(kind, 1)], [(), (1, 2)])

    def test_as_the_words_say(self):
        for kind in KINDS:
            for n in range(61):
                self.same(alternation(kind, n), plain.alternation(kind, n))

    def test_wrong_kinds(self):
        for told in NO_KINDS:
            self.refused(InvalidKind, told, alternation, told, 2)
            self.refused(InvalidKind, told, stops, ((2, 1),), told)
            self.refused(InvalidKind, told, stops, kind=told, forbidden=())

    def test_wrong_n(self):
        for n in NO_INTEGERS + (-1, -10 ** 30):
            self.refused(InvalidNumber, n, alternation, (1, 1), n)
            self.refused(InvalidNumber, n, alternation, n=n, kind=(-1, 1))

    def test_several_wrong_arguments(self):
        self.refused(InvalidKind, None, alternation, None, None)
        self.refused(InvalidKind, (1,), alternation, n=-1, kind=(1,))


class Stopped(Checked):

    def test_by_hand(self):
        self.same(stopped(((2, 3, 1),)), ((2, 3, 1), (2, 3, 1), None, (2, 3, 1)))
        self.same(stopped(((2, 3, 1), (1, 3, 2))), ((2, 3, 1), (2, 3, 1), (1, 3, 2), (2, 3, 1)))
        self.same(stopped(((1, 3, 2), (2, 3, 1))), ((1, 3, 2), (2, 3, 1), (1, 3, 2), (1, 3, 2)))

    def test_the_edges(self):
        self.same([stopped(()), stopped(((1,),))], [(None,) * 4, ((1,),) * 4])
        self.same([endless(()), endless(((1,),))], [(-1, -1), None])
        for kind in KINDS:
            self.same([stops((), kind), stops(((1,),), kind)], [False, True])

    def test_as_the_words_say(self):
        for forbidden in LISTS:
            most = max((len(pattern) for pattern in forbidden), default=0)
            firsts = tuple(
                next((pattern for pattern in forbidden if shown(kind, len(pattern), pattern)), None)
                for kind in KINDS)
            self.same(stopped(forbidden), firsts)
            for kind, first in zip(KINDS, firsts):
                self.same(stops(forbidden, kind), any(shown(kind, most, pattern) for pattern in forbidden))
                self.same(stops(forbidden, kind), first is not None)
            self.same(endless(forbidden), KINDS[firsts.index(None)] if None in firsts else None)

    def test_all_little_patterns(self):
        for pattern in plain.orders_of(3) + plain.orders_of(4) + plain.orders_of(5):
            found = stopped((pattern,))
            for kind, first in zip(KINDS, found):
                self.same(first, pattern if shown(kind, len(pattern), pattern) else None)

    def test_each_kind_the_only_one(self):
        """Some lists stop just one kind, some all but one, some two; the first that is not stopped is told."""
        met = set()
        for patterns in combinations(plain.orders_of(3) + ((2, 4, 1, 3), (2, 1, 4, 3), (3, 4, 1, 2)), 2):
            found = stopped(patterns)
            met.add(tuple(first is None for first in found))
            self.same(endless(patterns), next((kind for kind, first in zip(KINDS, found) if first is None), None))
        for k in range(4):
            self.assertIn(tuple(at == k for at in range(4)), met)
        self.assertIn((False,) * 4, met)

    def test_if_a_kind_is_not_stopped_all_of_it_is_let(self):
        for forbidden in LISTS:
            for kind, first in zip(KINDS, stopped(forbidden)):
                if first is None:
                    self.assertTrue(lets(forbidden, alternation(kind, 8)))

    def test_the_largest(self):
        self.same(self.soon(stopped, FIVES), stopped(FIVES))
        for kind in KINDS:
            self.same(self.soon(stops, FIVES, kind), True)
        self.same(self.soon(endless, FIVES), None)

    def test_wrong_lists(self):
        for told in NO_LISTS:
            for call in (stopped, endless, most_slots):
                self.refused(InvalidList, told, call, told)
            self.refused(InvalidList, told, stops, told, (1, 1))
        for call in (stopped, endless, most_slots):
            self.refused(InvalidList, None, call, forbidden=None)

    def test_several_wrong_arguments(self):
        """The section lists the kind ahead of the list."""
        told = [1, 1]
        self.refused(InvalidKind, None, stops, ((),), None)
        self.refused(InvalidKind, told, stops, told, told)
        self.refused(InvalidKind, (0, 1), stops, kind=(0, 1), forbidden=None)
        self.same(told, [1, 1])


class MostSlots(Checked):

    def test_by_hand(self):
        self.same(most_slots(((2, 3, 1), (1, 3, 2))), 2)
        self.same([most_slots(((2, 1),)), most_slots(((1, 2),))], [1, 1])

    def test_the_edges(self):
        self.same([most_slots(((1,),)), most_slots(((2, 1), (1,)))], [0, 0])
        self.same([most_slots(()), most_slots(((2, 3, 1),))], [None, None])
        self.same(most_slots(((1, 2), (2, 1))), 1)

    def test_as_the_words_say(self):
        met = set()
        for forbidden in LISTS:
            found = most_slots(forbidden)
            met.add(found)
            if endless(forbidden) is not None:
                self.same(found, None)
            else:
                self.same(found, highs_and_lows(forbidden, 9))
        self.assertEqual(met, {None, 0, 1, 2, 3, 4, 5})

    def test_the_forms_on_the_way(self):
        """Open forms of up to three slots are on the way to orders of up to five things that are let."""
        for forbidden in LISTS:
            most = most_slots(forbidden)
            if most is not None:
                found = [form.count(0) for form in plain.open_forms(forbidden, 5)]
                self.assertEqual(max(found, default=0), min(most, 3))

    def test_the_largest(self):
        self.same(self.soon(most_slots, FIVES), 5)
        self.same(self.soon(most_slots, ((1, 2, 3, 4), (4, 3, 2, 1))), 5)
        hard = ((1, 2, 3, 4), (1, 2, 5, 4, 3), (1, 5, 3, 2, 4), (3, 5, 2, 1, 4), (4, 3, 1, 2, 5))
        self.same([self.soon(most_slots, hard), highs_and_lows(hard, 9)], [5, 5])


if __name__ == "__main__":
    unittest.main()
