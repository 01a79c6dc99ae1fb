"""[15], "sayings" of [16], and sayings.py."""

import random
import unittest

import plain
from checking import NO_INTEGERS, NO_ORDERS, NO_SAYINGS, Checked
from samples import ANY, DEEP, LEAVES, LITTLE, NONE, ONE, SAYINGS, STACK, WORDS

from bannedorders.errors import InvalidNumber, InvalidOrder, InvalidSaying
from bannedorders.lists import is_list, joined, least, let_of, lets, met
from bannedorders.sayings import is_meant, is_saying, lot_of, meaning
SORTERS = ("stack", "popper", "queues", "bubble")


def full(depth, leaf):
    return leaf if depth == 1 else ("both", full(depth - 1, leaf), full(depth - 1, leaf))


class IsSaying(Checked):

    def test_sayings(self):
        for told in SAYINGS + DEEP + (full(6, STACK),):
            self.same(is_saying(told), True)

    def test_what_is_none(self):
        for told in NO_SAYINGS:
            self.same(is_saying(told), False)
            for outer in (("turned", told), ("both", told, ONE), ("either", ONE, told), ("inverse", ("both", told, told))):
                self.same(is_saying(outer), False)

    def test_of_any_depth(self):
        told, wrong = ONE, ("list", ((2, 2),))
        for _ in range(20000):
            told, wrong = ("turned", told), ("turned", wrong)
        self.same([is_saying(told), is_saying(wrong)], [True, False])


class Meaning(Checked):

    def test_by_hand(self):
        self.same(meaning(("both", STACK, ("turned", ("list", ((2, 1, 3),))))), ((2, 3, 1), (3, 1, 2)))
        self.same([meaning(("sorted", sorter)) for sorter in SORTERS],
                  [((2, 3, 1),), ((2, 3, 1), (3, 1, 2)), ((3, 2, 1),), ((2, 3, 1), (3, 2, 1))])
        self.same([meaning((word, STACK)) for word in WORDS], [((1, 3, 2),), ((2, 1, 3),), ((3, 1, 2),)])
        self.same(meaning(("either", ONE, ("list", ((1, 2),)))), ((1, 3, 2), (2, 1, 3), (2, 3, 1), (3, 1, 2)))
        self.same(meaning(("list", ((1, 3, 4, 2), (2, 3, 1), (2, 3, 1)))), ((2, 3, 1),))

    def test_the_edges(self):
        self.same([meaning(ANY), meaning(NONE), meaning(("turned", ANY)), meaning(("inverse", NONE))],
                  [(), ((1,),), (), ((1,),)])
        self.same([meaning(("both", ANY, ONE)), meaning(("either", ANY, ONE))], [((2, 1),), ()])
        self.same([meaning(("both", NONE, ONE)), meaning(("either", NONE, ONE))], [((1,),), ((2, 1),)])

    def test_changed_twice(self):
        for saying in LEAVES:
            for word in WORDS:
                self.same(meaning((word, (word, saying))), meaning(saying))
            self.same(meaning(("turned", ("mirrored", saying))), meaning(("mirrored", ("turned", saying))))
            self.same(meaning(("inverse", ("turned", saying))), meaning(("mirrored", ("inverse", saying))))

    def test_with_itself(self):
        for saying in LITTLE:
            self.same([meaning(("both", saying, saying)), meaning(("either", saying, saying))], [meaning(saying)] * 2)

    def test_as_the_words_say(self):
        """The least orders that are not meant: of up to six things there are no others."""
        for saying in SAYINGS + DEEP[:20]:
            found = meaning(saying)
            self.assertTrue(is_list(found))
            self.same(found, plain.least_without(lambda order: order in plain.saying_lot(saying, len(order)), 6))

    def test_of_the_parts(self):
        for one, other in zip(LITTLE, LITTLE[5:] + LITTLE[:5]):
            lists = meaning(one), meaning(other)
            self.same([meaning(("both", one, other)), meaning(("either", one, other))], [met(*lists), joined(*lists)])

    def test_the_largest(self):
        for saying in DEEP:
            self.soon(meaning, saying)
        self.same(self.soon(meaning, full(6, STACK)), ((2, 3, 1),))
        four = ("list", ((1, 2, 3), (1, 3, 2), (2, 3, 1), (3, 1, 2))), ("list", ((2, 1, 3), (2, 3, 1), (3, 1, 2), (3, 2, 1)))
        self.soon(meaning, ("either",) + four)
        self.soon(meaning, ("either", ("list", ((1, 2, 3),)), ("list", ((3, 2, 1),))))


class Lots(Checked):

    def test_by_hand(self):
        self.same(lot_of(("either", ("list", ((1, 2),)), ONE), 3), [(1, 2, 3), (3, 2, 1)])
        self.same(lot_of(("turned", STACK), 3), [(1, 2, 3), (2, 1, 3), (2, 3, 1), (3, 1, 2), (3, 2, 1)])
        self.same(lot_of(("both", STACK, ("list", ((1, 2, 3), (2, 1, 3)))), 3), [(1, 3, 2), (3, 1, 2), (3, 2, 1)])

    def test_the_edges(self):
        for saying in SAYINGS:
            self.same(lot_of(saying, 0), [()])
        self.same([lot_of(NONE, 1), lot_of(ANY, 1), lot_of(("both", NONE, ANY), 6)], [[], [(1,)], []])

    def test_as_the_words_say(self):
        for saying in SAYINGS + DEEP:
            for n in range(6):
                self.same(lot_of(saying, n), sorted(plain.saying_lot(saying, n)))

    def test_of_what_it_means(self):
        for saying in SAYINGS + DEEP:
            self.same(lot_of(saying, 5), let_of(meaning(saying), 5))
        for saying in SAYINGS[::3] + DEEP[::6]:
            self.same(lot_of(saying, 6), let_of(meaning(saying), 6))

    def test_not_by_least_lists(self):
        """Either of many things of which the least list would be long: its lot is just as soon told."""
        one = ("list", ((5, 1, 4, 2, 3), (2, 5, 1, 4, 3)))
        saying = ("either", ("either", one, ("turned", one)), ("either", ("mirrored", one), ("inverse", one)))
        self.same(self.soon(lot_of, saying, 6), sorted(plain.saying_lot(saying, 6)))

    def test_the_largest(self):
        for leaf in (ANY, STACK, ("list", ((5, 1, 4, 2, 3), (2, 5, 1, 4, 3)))):
            self.same(self.soon(lot_of, full(6, leaf), 6), sorted(plain.saying_lot(leaf, 6)))

    def test_returned_lists_are_new(self):
        for saying in (ANY, STACK, ("turned", STACK), ("both", ANY, STACK), ("either", NONE, NONE), NONE):
            for n in (0, 1, 3):
                first = lot_of(saying, n)
                wanted = list(first)
                first.append("more")
                self.same(lot_of(saying, n), wanted)


class IsMeant(Checked):

    def test_by_hand(self):
        self.same([is_meant(STACK, (2, 3, 1)), is_meant(("turned", STACK), (2, 3, 1))], [False, True])
        self.same([is_meant(("inverse", STACK), order) for order in ((2, 3, 1), (3, 1, 2))], [True, False])
        self.same([is_meant(("either", ONE, STACK), (2, 1)), is_meant(("both", ONE, STACK), (2, 1))], [True, False])

    def test_as_the_words_say(self):
        for saying in SAYINGS + DEEP:
            for order in plain.orders_to(4) + list(plain.orders_of(5)[::7]):
                self.same(is_meant(saying, order), order in plain.saying_lot(saying, len(order)))

    def test_longer_orders(self):
        chance = random.Random(8)
        for saying in SAYINGS + DEEP:
            for n in (7, 10, 12):
                order = tuple(chance.sample(range(1, n + 1), n))
                self.same(is_meant(saying, order), lets(meaning(saying), order))
                rising = tuple(range(1, n + 1))
                self.same(self.soon(is_meant, saying, rising), lets(meaning(saying), rising))


class Wrong(Checked):

    def test_wrong_sayings(self):
        for told in NO_SAYINGS:
            self.refused(InvalidSaying, told, meaning, told)
            self.refused(InvalidSaying, told, lot_of, told, 3)
            self.refused(InvalidSaying, told, is_meant, told, (1, 2))
            whole = ("both", ("turned", told), ONE)
            self.refused(InvalidSaying, whole, meaning, whole)

    def test_wrong_n(self):
        for n in NO_INTEGERS + (-1, -10 ** 30):
            self.refused(InvalidNumber, n, lot_of, STACK, n)
            self.refused(InvalidNumber, n, lot_of, n=n, saying=NONE)

    def test_wrong_orders(self):
        for order in NO_ORDERS:
            self.refused(InvalidOrder, order, is_meant, STACK, order)
            self.refused(InvalidOrder, order, is_meant, order=order, saying=ANY)

    def test_several_wrong_arguments(self):
        self.refused(InvalidSaying, None, lot_of, None, None)
        self.refused(InvalidSaying, (), is_meant, order=None, saying=())
        wrong = ["turned", ["list", [[2, 1]]]]
        self.refused(InvalidSaying, wrong, meaning, wrong)
        self.refused(InvalidSaying, wrong, lot_of, wrong, -1)
        self.same(wrong, ["turned", ["list", [[2, 1]]]])

    def test_least_lists(self):
        for saying in SAYINGS:
            self.same(least(meaning(saying)), meaning(saying))


if __name__ == "__main__":
    unittest.main()
