"""[16] over the whole program: what one file tells is handed on to the others, and answered as anything else."""

import unittest
from itertools import chain, combinations, product

import plain
from checking import Checked
from samples import LITTLE, SAYINGS

from bannedorders.alternations import alternation, endless, most_slots, stopped, stops
from bannedorders.blocks import from_tree, is_simple, parts, put_together, skew_parts, tree
from bannedorders.consoles import Console
from bannedorders.counts import count, counts, degree, rule
from bannedorders.errors import NoMachine
from bannedorders.lists import (
    inverse_list, is_finite, is_list, joined, least, let_of, lets, lies_within, met, mirrored_list, parting, same,
    turned_list)
from bannedorders.machines import (
    is_machine, joined_machine, least_machine, less_machine, machine, met_machine, same_words, spells, words)
from bannedorders.patterns import inverse, is_order, mirrored, parts_of, pattern_of, places, shows, turned
from bannedorders.ranks import drawn, next_order, nth, place_of
from bannedorders.rates import faster, rate
from bannedorders.readers import read_list, read_machine, read_order, read_saying, read_word
from bannedorders.sayings import is_meant, is_saying, lot_of, meaning
from bannedorders.slots import filling, is_open, led, order_of, put, slots, widest, word_of
from bannedorders.sorters import least_unsorted, list_of, made, sorts
from bannedorders.texts import show_list, show_machine, show_order, show_saying, show_word

# All lists of patterns of three things, and some more.
OF_THREE = tuple(chain.from_iterable(combinations(plain.orders_of(3), many) for many in range(7)))
LISTS = OF_THREE + (((1,),), ((1, 2),), ((2, 1),), ((1, 2), (2, 1)), ((2, 1), (1, 2, 3)), ((1, 2, 3, 4), (2, 1)))
WITH = tuple(forbidden for forbidden in LISTS if endless(forbidden) is None)


class Handed(Checked):

    def test_orders(self):
        """From one file to the next, and back to the order itself."""
        for order in plain.orders_to(5)[1:]:
            told = read_order(show_order(order))
            told = from_tree(tree(told))
            told = order_of(read_word(show_word(word_of(told))))
            told = inverse(inverse(mirrored(turned(mirrored(turned(told))))))
            told = pattern_of(tuple(3 * number - 7 for number in told))
            self.same(told, order)
            for part in parts_of(order, 3):
                self.assertTrue(shows(order, part) and is_order(part) and places(order, part))
                self.same(lets((part,), order), False)

    def test_forms(self):
        for order in plain.orders_of(4):
            form, word = (0,), word_of(order)
            for at, letter in enumerate(word):
                self.same(led(word[:at]), form)
                self.assertTrue(slots(form) <= widest(order))
                self.same(is_open((), form), True)
                form = put(form, letter)
            self.same(form, order)

    def test_blocks(self):
        """Each order of two or more is put together of just one simple one and orders, or in parts, or in skew parts."""
        for order in plain.orders_to(6)[2:]:
            told = tree(order)
            self.same(from_tree(told), order)
            self.assertEqual(told[0] == "sum", len(parts(order)) > 1)
            self.assertEqual(told[0] == "skew", len(skew_parts(order)) > 1)
            if told[0] == "simple":
                self.assertTrue(is_simple(told[1]))
                inner = tuple(from_tree(one) for one in told[2])
                self.same(put_together(told[1], inner), order)

    def test_alternations(self):
        for kind in product((-1, 1), repeat=2):
            order = alternation(kind, 4)
            self.same(order_of(word_of(order)), order)
            for forbidden in OF_THREE:
                self.assertEqual(stops(forbidden, kind), not lets(forbidden, order))
            self.same(widest(alternation(kind, 6)) >= 6, True)

    def test_lists(self):
        """Met, joined, turned about and so on: told lists are as good as any."""
        for one, other in zip(LISTS, LISTS[7:] + LISTS[:7]):
            both, either = met(one, other), joined(one, other)
            for told in (both, either, turned_list(one), mirrored_list(one), inverse_list(one), least(one)):
                self.same([is_list(told), least(told), read_list(show_list(told))], [True, told, told])
            self.assertTrue(lies_within(both, one) and lies_within(other, either))
            for n in range(5):
                ones, others = let_of(one, n), let_of(other, n)
                self.same(let_of(both, n), [order for order in ones if order in others])
                self.same(let_of(either, n), sorted(set(ones) | set(others)))
            self.same(same(one, other), least(one) == least(other))
            first = parting(one, other)
            if first is None:
                self.same(least(one), least(other))
            else:
                self.assertNotEqual(lets(one, first), lets(other, first))


class ForAllLists(Checked):

    def test_machines_exactly_if_all_four_are_stopped(self):
        for forbidden in LISTS:
            kind = endless(forbidden)
            self.same(None in stopped(forbidden), kind is not None)
            if kind is not None:
                for call in (machine, rule, degree, rate):
                    self.refused_with(NoMachine, kind, call, forbidden)
                for n in (5, 8):
                    self.assertTrue(lets(forbidden, alternation(kind, n)))
                self.same(most_slots(forbidden), None)
            else:
                told = machine(forbidden)
                self.assertTrue(is_machine(told) and plain.is_least(told))
                self.same(least_machine(read_machine(show_machine(told))), told)
                for n in range(1, 6):
                    self.same(sorted(order_of(word) for word in words(told, n)), let_of(forbidden, n))

    def test_finite(self):
        for forbidden in LISTS:
            longest = 2 + 2 * 2
            self.assertEqual(is_finite(forbidden), let_of(forbidden, longest) == [])
        for forbidden in WITH:
            finite = is_finite(forbidden)
            self.assertEqual([degree(forbidden) == -1, rate(forbidden)[2] == (0, 1)], [finite, finite])

    def test_counts_and_ranks(self):
        for forbidden in WITH:
            told, found = machine(forbidden), counts(forbidden, 12)
            firsts, numbers = rule(forbidden)
            for n in range(len(numbers), 13):
                self.same(found[n], sum(top * found[n - 1 - at] for at, (top, _) in enumerate(numbers)))
            for n in (1, 4):
                orders = [order_of(word) for word in words(told, n)]
                self.assertEqual(len(orders), found[n])
                for i, order in enumerate(orders):
                    self.same([nth(forbidden, n, i), place_of(forbidden, order)], [order, i])
                    self.same(next_order(forbidden, order), (orders + [None])[i + 1])
                    bits = tuple(int(bit) for bit in f"{i:b}".zfill((found[n] - 1).bit_length())) if found[n] > 1 else ()
                    self.same(drawn(forbidden, n, bits), (order, len(bits)))

    def test_open_forms(self):
        for forbidden in WITH[::3]:
            for order in let_of(forbidden, 4):
                word = word_of(order)
                for at in range(5):
                    form = led(word[:at])
                    self.same(is_open(forbidden, form), True)
                    self.assertTrue(slots(form) <= most_slots(forbidden))
                    self.assertTrue(lets(forbidden, filling(forbidden, form)))

    def test_machines_of_two_lists(self):
        for one, other in zip(WITH, WITH[3:] + WITH[:3]):
            told, others = machine(one), machine(other)
            self.same(met_machine(told, others), machine(met(one, other)))
            self.same(joined_machine(told, others), machine(joined(one, other)))
            less = less_machine(told, others)
            for n in range(1, 5):
                self.same(sorted(order_of(word) for word in words(less, n)),
                          [order for order in let_of(one, n) if not lets(other, order)])
            first = same_words(told, others)
            self.same(first is None, same(one, other))
            if first is not None:
                order = order_of(first)
                self.assertNotEqual(lets(one, order), lets(other, order))
                self.assertEqual(len(order), len(parting(one, other)))
            if lies_within(one, other):
                self.assertIn(faster(one, other), (-1, 0))

    def test_sorters(self):
        for sorter in ("stack", "popper", "queues", "bubble"):
            forbidden = list_of(sorter)
            self.same(tuple(least_unsorted(sorter, 5)), forbidden)
            self.same(meaning(("sorted", sorter)), forbidden)
            for order in plain.orders_to(5):
                self.same([sorts(sorter, order), is_meant(("sorted", sorter), order)], [lets(forbidden, order)] * 2)
                self.assertTrue(is_order(made(sorter, order)))
            if endless(forbidden) is None:
                told = machine(forbidden)
                for order in plain.orders_of(5):
                    self.same(spells(told, word_of(order)), sorts(sorter, order))

    def test_sayings(self):
        for saying in SAYINGS:
            forbidden = meaning(saying)
            self.same([is_saying(("list", forbidden)), meaning(("list", forbidden))], [True, forbidden])
            self.same(lot_of(saying, 4), let_of(forbidden, 4))
            self.same(meaning(read_saying(show_saying(saying))), forbidden)
            if endless(forbidden) is None:
                self.same(count(forbidden, 4), len(lot_of(saying, 4)))


class Consoles(Checked):

    def test_what_the_others_tell(self):
        """The answers are the texts of what the files tell, and what is told may be kept and ordered again."""
        for one, other in zip(WITH, WITH[5:] + WITH[:5]):
            console = Console()
            console.keep("a", one)
            console.order(f"list b {show_list(other)}")
            self.same(console.forbidden("b"), other)
            for text, wanted in (
                    ("both c a b", met(one, other)), ("either c a b", joined(one, other)), ("turned c a", turned_list(one)),
                    ("mirrored c b", mirrored_list(other)), ("inverse c a", inverse_list(one))):
                self.same([console.order(text), console.forbidden("c")], ["done", wanted])
                self.same(read_list(console.order("show c")), wanted)
                console.keep("d", console.forbidden("c"))
                self.same(console.order("same c d"), "yes")
            self.same(read_machine(console.order("machine a")), machine(one))
            self.same(console.order("count a 9"), str(count(one, 9)))
            for i in range(min(count(one, 4), 3)):
                order = read_order(console.order(f"nth a 4 {i}"))
                self.same(console.order(f"place a {show_order(order)}"), str(i))

    def test_sayings_of_what_is_kept(self):
        console = Console()
        for saying in LITTLE:
            console.order(f"say a {show_saying(saying)}")
            console.order(f"say b (turned (list [{console.order('show a')}]))")
            console.order("turned c a")
            self.same([console.order("same b c"), console.forbidden("b")], ["yes", console.forbidden("c")])


if __name__ == "__main__":
    unittest.main()
