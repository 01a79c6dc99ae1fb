"""[13], [14], "sorters" of [16], and sorters.py."""

import random
import unittest
from unittest import mock

import plain
from checking import NO_INTEGERS, NO_ORDERS, NO_SORTERS, Checked

from bannedorders import sorters
from bannedorders.alternations import endless
from bannedorders.counts import count
from bannedorders.errors import InvalidNumber, InvalidOrder, InvalidSorter
from bannedorders.lists import least, let_of, lets
from bannedorders.machines import machine, spells
from bannedorders.slots import word_of
from bannedorders.sorters import least_unsorted, list_of, made, passes, sorts

SORTERS = ("stack", "popper", "queues", "bubble")
LISTS = {
    "stack": ((2, 3, 1),), "popper": ((2, 3, 1), (3, 1, 2)), "queues": ((3, 2, 1),), "bubble": ((2, 3, 1), (3, 2, 1))}
OF_ORDERS = (made, sorts, passes)


def rising(n):
    return tuple(range(1, n + 1))


class Made(Checked):

    def test_by_hand(self):
        for sorter, wanted in (
                ("stack", (2, 1, 3, 4, 5)), ("popper", (2, 1, 3, 5, 4)), ("queues", (2, 3, 5, 1, 4)),
                ("bubble", (2, 3, 1, 4, 5))):
            self.same(made(sorter, (2, 5, 3, 1, 4)), wanted)
        self.same([made(sorter, (3, 2, 1)) for sorter in SORTERS], [(1, 2, 3), (1, 2, 3), (2, 3, 1), (2, 1, 3)])
        self.same([made(sorter, (3, 1, 2)) for sorter in SORTERS], [(1, 2, 3), (1, 3, 2), (1, 2, 3), (1, 2, 3)])
        self.same([made(sorter, (2, 3, 1)) for sorter in SORTERS], [(2, 1, 3), (2, 1, 3), (1, 2, 3), (2, 1, 3)])

    def test_rows_that_do_not_rise(self):
        """What fits behind neither row comes behind the first one, and holds up what is behind it."""
        self.same(made("queues", (4, 3, 1, 2)), (3, 4, 1, 2))
        self.same(made("queues", (4, 3, 2, 1)), (3, 4, 2, 1))
        self.same(made("queues", (5, 2, 1, 4, 3)), (2, 3, 5, 1, 4))

    def test_the_edges(self):
        for sorter in SORTERS:
            self.same([made(sorter, ()), made(sorter, (1,)), made(sorter, rising(12))], [(), (1,), rising(12)])
            self.same([made(sorter, (1, 2)), made(sorter, (2, 1))], [(1, 2), (1, 2)])

    def test_as_the_words_say(self):
        chance = random.Random(4)
        orders = plain.orders_to(6) + [tuple(chance.sample(rising(12), 12)) for _ in range(200)]
        for sorter in SORTERS:
            for order in orders:
                self.same(made(sorter, order), plain.made(sorter, order))


class Sorts(Checked):

    def test_by_hand(self):
        self.same([sorts(sorter, (3, 2, 1)) for sorter in SORTERS], [True, True, False, False])
        self.same([sorts(sorter, (2, 3, 1)) for sorter in SORTERS], [False, False, True, False])
        self.same([sorts(sorter, ()) for sorter in SORTERS], [True] * 4)

    def test_exactly_what_its_list_lets(self):
        chance = random.Random(5)
        orders = plain.orders_to(7) + [tuple(chance.sample(rising(12), 12)) for _ in range(30)]
        for sorter in SORTERS:
            for order in orders:
                self.same(sorts(sorter, order), plain.made(sorter, order) == rising(len(order)))
                self.same(sorts(sorter, order), lets(list_of(sorter), order))

    def test_the_lists(self):
        for sorter in SORTERS:
            self.same(list_of(sorter), LISTS[sorter])
            self.same(list_of(sorter), least(list_of(sorter)))

    def test_what_the_machine_of_its_list_spells(self):
        with_machines = [sorter for sorter in SORTERS if endless(list_of(sorter)) is None]
        self.assertEqual(with_machines, ["popper", "bubble"])
        for sorter in with_machines:
            told = machine(list_of(sorter))
            for n in range(1, 7):
                found = [order for order in plain.orders_of(n) if sorts(sorter, order)]
                self.same([order for order in plain.orders_of(n) if spells(told, word_of(order))], found)
                self.same(count(list_of(sorter), n), len(found))
                self.same(let_of(list_of(sorter), n), found)


class Passes(Checked):

    def test_by_hand(self):
        self.same([passes(sorter, (2, 3, 1)) for sorter in SORTERS], [2, 2, 1, 2])
        self.same([passes(sorter, (3, 2, 1)) for sorter in SORTERS], [1, 1, 2, 2])
        self.same([passes(sorter, (2, 3, 4, 1)) for sorter in SORTERS], [3, 3, 1, 3])

    def test_the_edges(self):
        for sorter in SORTERS:
            self.same([passes(sorter, rising(n)) for n in (0, 1, 2, 12)], [0, 0, 0, 0])
            self.same(passes(sorter, (2, 1)), 1)

    def test_as_the_words_say(self):
        chance = random.Random(6)
        orders = plain.orders_to(6) + [tuple(chance.sample(rising(12), 12)) for _ in range(50)]
        for sorter in SORTERS:
            for order in orders:
                now, many = order, 0
                while now != rising(len(now)) and many <= len(now):
                    now, many = plain.made(sorter, now), many + 1
                self.same(passes(sorter, order), many if many <= len(order) else None)
                self.same(passes(sorter, order) == 0, order == rising(len(order)))
                self.same(passes(sorter, order) in (0, 1), sorts(sorter, order))

    def test_more_than_n_times(self):
        """No order of these sorters takes that long, so one is put in that changes nothing, and one that is slow."""
        with mock.patch.dict(sorters.WAYS, {"bubble": lambda order: order}):
            self.same([passes("bubble", (2, 1, 3)), passes("bubble", (1, 2)), passes("bubble", ())], [None, 0, 0])
        for many, wanted in ((3, 3), (4, None)):
            made_first = [(3, 2, 1)] * (many - 1)
            steps = iter(made_first + [(1, 2, 3)])
            with mock.patch.dict(sorters.WAYS, {"bubble": lambda order: next(steps)}):
                self.same(passes("bubble", (2, 3, 1)), wanted)


class Unsorted(Checked):

    def test_they_are_the_list(self):
        for sorter in SORTERS:
            for n in range(7):
                self.same(least_unsorted(sorter, n), [pattern for pattern in LISTS[sorter] if len(pattern) <= n])

    def test_as_the_words_say(self):
        for sorter in SORTERS:
            orders = [order for order in plain.orders_to(6)]
            sorted_ones = {order for order in orders if plain.made(sorter, order) == rising(len(order))}
            wanted = [
                order for order in orders
                if order not in sorted_ones and all(less in sorted_ones for less in plain.patterns_in(order) - {order})]
            self.same(least_unsorted(sorter, 6), wanted)

    def test_by_length_and_then_as_tuples(self):
        """Also if more is not sorted than by these sorters: all that is less must be."""
        sorts_just = {(), (1,), (1, 2), (2, 1), (1, 2, 3), (2, 1, 3), (1, 3, 2), (1, 2, 3, 4)}
        with mock.patch.dict(sorters.WAYS, {
                "stack": lambda order: tuple(sorted(order, reverse=order not in sorts_just))}):
            self.same(least_unsorted("stack", 4), [
                (2, 3, 1), (3, 1, 2), (3, 2, 1), (1, 2, 4, 3), (1, 3, 2, 4), (2, 1, 3, 4), (2, 1, 4, 3)])

    def test_the_largest(self):
        for sorter in SORTERS:
            self.same(self.soon(least_unsorted, sorter, 6), list(LISTS[sorter]))

    def test_returned_lists_are_new(self):
        for sorter in SORTERS:
            for n in (0, 3):
                first = least_unsorted(sorter, n)
                wanted = list(first)
                first.append("more")
                self.same(least_unsorted(sorter, n), wanted)


class Wrong(Checked):

    def test_wrong_sorters(self):
        for told in NO_SORTERS:
            for call in OF_ORDERS:
                self.refused(InvalidSorter, told, call, told, (1, 2))
            self.refused(InvalidSorter, told, list_of, told)
            self.refused(InvalidSorter, told, least_unsorted, told, 3)

    def test_wrong_orders(self):
        for order in NO_ORDERS:
            for call in OF_ORDERS:
                self.refused(InvalidOrder, order, call, "stack", order)
                self.refused(InvalidOrder, order, call, order=order, sorter="bubble")

    def test_wrong_n(self):
        for n in NO_INTEGERS + (-1, -10 ** 30):
            self.refused(InvalidNumber, n, least_unsorted, "queues", n)
            self.refused(InvalidNumber, n, least_unsorted, n=n, sorter="popper")

    def test_several_wrong_arguments(self):
        for call in OF_ORDERS:
            self.refused(InvalidSorter, None, call, None, None)
            self.refused(InvalidSorter, "sort", call, order=(2, 2), sorter="sort")
        self.refused(InvalidSorter, None, least_unsorted, None, -1)
        wrong = ["stack"]
        self.refused(InvalidSorter, wrong, made, wrong, [1])
        self.same(wrong, ["stack"])


if __name__ == "__main__":
    unittest.main()
