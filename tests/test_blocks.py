"""The sums of [5], [6], "blocks" of [16], and blocks.py."""

import unittest
from itertools import permutations, product

from checking import NO_ORDERS, Checked

from bannedorders.blocks import (
    blocks, from_tree, is_simple, parts, put_together, skew_parts, skew_summed, summed, tree)
from bannedorders.errors import InvalidOrder, InvalidPair
from bannedorders.patterns import mirrored, pattern_of

ONE = ("one",)
LONG = (7, 2, 12, 5, 9, 1, 11, 4, 8, 3, 10, 6)
NO_TREES = (
    None, True, False, 0, 1, "", "one", "sum", (), [], {}, ["one"], (ONE,), ("two",), (1,), (None,), ([],), ("One",),
    ("one", ()), ("one", ONE), ("one", (ONE,)), ("one", 1),
    ("sum",), ("sum", ()), ("sum", (ONE,)), ("sum", ONE), ("sum", ONE, ONE), ("sum", (ONE, ONE), ONE),
    ("sum", None), ("sum", 2), ("sum", "ab"), ("sum", [ONE, ONE]), ("sum", (ONE, ["one"])), ("sum", (ONE, None)),
    ("sum", (ONE, ())), ("sum", (ONE, True)), ("sum", (ONE, "one")), ["sum", (ONE, ONE)], ("sum", (1, 2), (ONE, ONE)),
    ("sum", (ONE, ("sum", (ONE, ONE)))), ("sum", (("sum", (ONE, ONE)), ONE)),
    ("skew",), ("skew", ()), ("skew", (ONE,)), ("skew", [ONE, ONE]), ("skew", ONE, ONE), ["skew", (ONE, ONE)],
    ("skew", (ONE, ("skew", (ONE, ONE)))), ("skew", (("skew", (ONE, ONE)), ONE)),
    ("sum", (ONE, ("skew", (ONE, ("sum", (ONE,)))))), ("sum", (ONE, ("skew", (ONE, ("skew", (ONE, ONE)))))),
    ("simple",), ("simple", (2, 4, 1, 3)), ("simple", (ONE,) * 4), ("simple", (2, 4, 1, 3), ()),
    ("simple", (2, 4, 1, 3), (ONE,) * 3), ("simple", (2, 4, 1, 3), (ONE,) * 5),
    ("simple", (2, 4, 1, 3), [ONE] * 4), ("simple", [2, 4, 1, 3], (ONE,) * 4), ["simple", (2, 4, 1, 3), (ONE,) * 4],
    ("simple", (2, 4, True, 3), (ONE,) * 4), ("simple", (2, 4, 1, 1), (ONE,) * 4), ("simple", None, (ONE,) * 4),
    ("simple", "2413", (ONE,) * 4), ("simple", (2, 4, 1, 3), "abcd"), ("simple", (2, 4, 1, 3), None),
    ("simple", (1, 2, 3, 4), (ONE,) * 4), ("simple", (2, 4, 3, 1), (ONE,) * 4), ("simple", (), ()),
    ("simple", (1,), (ONE,)), ("simple", (1, 2), (ONE, ONE)), ("simple", (2, 4, 1, 3), (ONE,) * 4, ()),
    ("simple", (2, 4, 1, 3), (ONE, ONE, ONE, ("sum", (ONE,)))), ("simple", (2, 4, 1, 3), (ONE, ONE, ONE, 1)),
    ("simply", (2, 4, 1, 3), (ONE,) * 4), ("one", (2, 4, 1, 3), (ONE,) * 4), ("sum", (2, 4, 1, 3), (ONE,) * 4),
    (None, (2, 4, 1, 3), (ONE,) * 4), ((2, 4, 1, 3), "simple", (ONE,) * 4), (None, (ONE, ONE)),
    ("sums", (ONE, ONE)), (True, (ONE, ONE)), (("sum", "skew"), (ONE, ONE)),
)


def orders_of(n):
    return list(permutations(range(1, n + 1)))


def all_orders(most):
    return [order for n in range(most + 1) for order in orders_of(n)]


def sum_by_the_words(one, other):
    return one + tuple(number + len(one) for number in other)


def skew_sum_by_the_words(one, other):
    return tuple(number + len(other) for number in one) + other


def is_in(order, added):
    """As [5] says it: whether it is a sum, or a skew sum, of two that are not ()."""
    cuts = range(1, len(order))
    return any(added(pattern_of(order[:at]), pattern_of(order[at:])) == order for at in cuts)


def blocks_by_the_words(order):
    found = []
    for begin in range(len(order)):
        for end in range(begin + 1, len(order) + 1):
            numbers = set(order[begin:end])
            if numbers == set(range(min(numbers), max(numbers) + 1)):
                found.append((begin, end))
    return found


def is_simple_by_the_words(order):
    n = len(order)
    own = [(begin, end) for begin, end in blocks_by_the_words(order) if end - begin not in (1, n)]
    return n >= 4 and own == []


def splits(n, k):
    """All ways to write n as a sum of k integers from 1 on."""
    if k == 0:
        return [()] if n == 0 else []
    return [(first,) + rest for first in range(1, n + 1) for rest in splits(n - first, k - 1)]


class Sums(Checked):

    def test_by_hand(self):
        self.same(summed((2, 1), (1, 3, 2)), (2, 1, 3, 5, 4))
        self.same(skew_summed((2, 1), (1, 3, 2)), (5, 4, 1, 3, 2))

    def test_the_edges(self):
        for add in (summed, skew_summed):
            self.same(add((), ()), ())
            self.same(add((), (2, 1)), (2, 1))
            self.same(add((2, 1), ()), (2, 1))
        self.same(summed((1,), (1,)), (1, 2))
        self.same(skew_summed((1,), (1,)), (2, 1))

    def test_as_the_words_say(self):
        for one, other in product(all_orders(4), all_orders(3)):
            self.same(summed(one, other), sum_by_the_words(one, other))
            self.same(skew_summed(one, other), skew_sum_by_the_words(one, other))

    def test_wrong_arguments(self):
        for add in (summed, skew_summed):
            for told in NO_ORDERS:
                self.refused(InvalidOrder, told, add, told, (1,))
                self.refused(InvalidOrder, told, add, (1,), told)
                self.refused(InvalidOrder, told, add, other=told, one=())

    def test_several_wrong_arguments(self):
        for add in (summed, skew_summed):
            self.refused(InvalidOrder, None, add, None, (2,))
            self.refused(InvalidOrder, (2,), add, (2,), None)
            self.refused(InvalidOrder, (3,), add, other=[1], one=(3,))


class Parts(Checked):

    def test_by_hand(self):
        self.same(parts((2, 1, 3, 6, 4, 5)), ((2, 1), (1,), (3, 1, 2)))
        self.same(parts((1, 2, 3)), ((1,), (1,), (1,)))
        self.same(parts((2, 3, 1)), ((2, 3, 1),))
        self.same(skew_parts((6, 4, 5, 3, 1, 2)), ((1,), (1, 2), (1,), (1, 2)))
        self.same(skew_parts((3, 2, 1)), ((1,), (1,), (1,)))
        self.same(skew_parts((1, 3, 2)), ((1, 3, 2),))
        self.same([parts((2, 4, 1, 3)), skew_parts((2, 4, 1, 3))], [((2, 4, 1, 3),), ((2, 4, 1, 3),)])

    def test_the_edges(self):
        for call in (parts, skew_parts):
            self.same(call(()), ())
            self.same(call((1,)), ((1,),))

    def test_as_the_words_say(self):
        for call, added in ((parts, sum_by_the_words), (skew_parts, skew_sum_by_the_words)):
            for order in all_orders(6) + [LONG, tuple(range(1, 13)), tuple(range(12, 0, -1))]:
                found = call(order)
                self.assertIsInstance(found, tuple)
                whole = ()
                for part in found:
                    self.assertTrue(part != () and not is_in(part, added))
                    whole = added(whole, part)
                self.same(whole, order)
                self.assertEqual(len(found) > 1, is_in(order, added))

    def test_how_many_are_in_no_parts(self):
        for n, wanted in ((1, 1), (2, 1), (3, 3), (4, 13), (5, 71), (6, 461)):
            for call in (parts, skew_parts):
                self.assertEqual(len([order for order in orders_of(n) if len(call(order)) == 1]), wanted)

    def test_wrong_orders(self):
        for call in (parts, skew_parts):
            for told in NO_ORDERS:
                self.refused(InvalidOrder, told, call, told)


class Blocks(Checked):

    def test_by_hand(self):
        self.same(blocks((2, 1, 3)), [(0, 1), (0, 2), (0, 3), (1, 2), (2, 3)])
        self.same(blocks((1, 3, 5, 2, 4)), [(0, 1), (0, 5), (1, 2), (1, 5), (2, 3), (3, 4), (4, 5)])

    def test_the_edges(self):
        self.same(blocks(()), [])
        self.same(blocks((1,)), [(0, 1)])
        self.same(blocks((2, 1)), [(0, 1), (0, 2), (1, 2)])

    def test_as_the_words_say(self):
        for order in all_orders(6) + [LONG, tuple(range(1, 13)), tuple(range(12, 0, -1))]:
            self.same(blocks(order), blocks_by_the_words(order))

    def test_wrong_orders(self):
        for told in NO_ORDERS:
            self.refused(InvalidOrder, told, blocks, told)
            self.refused(InvalidOrder, told, is_simple, told)

    def test_simple_by_hand(self):
        for order in ((2, 4, 1, 3), (3, 1, 4, 2), (2, 4, 1, 5, 3)):
            self.same(is_simple(order), True)
        for order in ((), (1,), (1, 2), (2, 1), (1, 3, 2), (2, 3, 1), (2, 1, 4, 3), (2, 4, 3, 1), (1, 3, 5, 2, 4)):
            self.same(is_simple(order), False)

    def test_simple_as_the_words_say(self):
        for order in all_orders(6) + [LONG]:
            self.same(is_simple(order), is_simple_by_the_words(order))

    def test_how_many_are_simple(self):
        for n, wanted in ((0, 0), (1, 0), (2, 0), (3, 0), (4, 2), (5, 6), (6, 46), (7, 338)):
            self.assertEqual(len([order for order in orders_of(n) if is_simple(order)]), wanted)


class PutTogether(Checked):

    def test_by_hand(self):
        self.same(put_together((2, 4, 1, 3), ((1,), (1, 2), (1,), (1,))), (2, 4, 5, 1, 3))
        self.same(put_together((3, 1, 2), ((2, 1), (1, 3, 2), (1,))), (6, 5, 1, 3, 2, 4))

    def test_the_edges(self):
        self.same(put_together((), ()), ())
        self.same(put_together((1,), ((2, 3, 1),)), (2, 3, 1))
        self.same(put_together((2, 3, 1), ((1,),) * 3), (2, 3, 1))

    def test_as_the_words_say(self):
        for k in range(4):
            for order, inner in product(orders_of(k), product(all_orders(3)[1:], repeat=k)):
                found = put_together(order, inner)
                firsts, begin = [], 0
                for part in inner:
                    stretch = found[begin:begin + len(part)]
                    self.same(pattern_of(stretch), part)
                    self.assertEqual(max(stretch) - min(stretch) + 1, len(part))
                    firsts.append(stretch[0])
                    begin += len(part)
                self.assertEqual(begin, len(found))
                self.same(pattern_of(tuple(firsts)), order)
                self.assertEqual(sorted(found), list(range(1, begin + 1)))

    def test_wrong_orders(self):
        for told in NO_ORDERS:
            self.refused(InvalidOrder, told, put_together, told, ((1,), (1,)))
            self.refused(InvalidOrder, told, put_together, (1, 2), (told, (1,)))
            self.refused(InvalidOrder, told, put_together, (1, 2), ((1,), told))
        self.refused(InvalidOrder, (), put_together, (1, 2), ((1,), ()))
        self.refused(InvalidOrder, (), put_together, orders=((),), order=(1,))

    def test_what_is_no_tuple_of_orders(self):
        for told in (None, 3, True, "ab", "", [], [(1,), (1,)], [(1,)]):
            self.refused(InvalidOrder, told, put_together, (1, 2), told)

    def test_not_as_many(self):
        for n, m in ((0, 1), (1, 0), (1, 2), (2, 1), (2, 0), (4, 3), (3, 5)):
            self.refused_with(InvalidPair, (n, m), put_together, tuple(range(1, n + 1)), ((2, 1),) * m)

    def test_several_wrong_arguments(self):
        first, second = (2,), (3,)
        self.refused(InvalidOrder, first, put_together, first, (second,))
        self.refused(InvalidOrder, first, put_together, first, ())
        self.refused(InvalidOrder, second, put_together, (1, 2), ((1,), second, first))
        self.refused(InvalidOrder, (), put_together, (1, 2), ((1,), (), first))
        self.refused(InvalidOrder, first, put_together, (1,), ((1,), (1,), first))
        self.refused(InvalidOrder, None, put_together, None, None)


class Trees(Checked):

    def test_by_hand(self):
        self.same(tree((1,)), ONE)
        self.same(tree((1, 2)), ("sum", (ONE, ONE)))
        self.same(tree((3, 2, 1)), ("skew", (ONE, ONE, ONE)))
        self.same(tree((2, 1, 3)), ("sum", (("skew", (ONE, ONE)), ONE)))
        self.same(tree((2, 4, 1, 3)), ("simple", (2, 4, 1, 3), (ONE, ONE, ONE, ONE)))
        self.same(tree((3, 2, 5, 6, 1, 4)), (
            "simple", (2, 4, 1, 3), (("skew", (ONE, ONE)), ("sum", (ONE, ONE)), ONE, ONE)))
        self.same(tree((1, 3, 5, 2, 4)), ("sum", (ONE, ("simple", (2, 4, 1, 3), (ONE,) * 4))))

    def test_a_simple_one_within_a_simple_one(self):
        order = put_together((3, 1, 4, 2), ((1,), (2, 4, 1, 3), (1, 2), (1,)))
        inner = ("simple", (2, 4, 1, 3), (ONE,) * 4)
        self.same(tree(order), ("simple", (3, 1, 4, 2), (ONE, inner, ("sum", (ONE, ONE)), ONE)))

    def check_node(self, order, node):
        kind = node[0]
        if len(order) == 1:
            self.same(node, ONE)
            return
        if is_in(order, sum_by_the_words):
            self.same(node, ("sum", tuple(tree(part) for part in parts(order))))
        elif is_in(order, skew_sum_by_the_words):
            self.same(node, ("skew", tuple(tree(part) for part in skew_parts(order))))
        else:
            self.assertEqual(kind, "simple")
            self.assertTrue(is_simple_by_the_words(node[1]))
            self.same(put_together(node[1], tuple(from_tree(below) for below in node[2])), order)

    def test_as_the_words_say(self):
        for order in all_orders(6)[1:] + [LONG, LONG[::-1], mirrored(LONG), tuple(range(1, 13))]:
            self.check_node(order, tree(order))

    def test_there_and_back(self):
        for order in all_orders(7)[1:] + [LONG, tuple(range(1, 13)), tuple(range(12, 0, -1))]:
            self.same(from_tree(tree(order)), order)

    def test_each_order_in_one_way(self):
        """The guarantee: of each order of two or more things just one of the three, and in just one way."""
        simple = [order for order in all_orders(6) if is_simple_by_the_words(order)]
        for n in range(2, 7):
            ways = {order: 0 for order in orders_of(n)}
            for order in simple:
                for sizes in splits(n, len(order)):
                    for inner in product(*[orders_of(size) for size in sizes]):
                        ways[put_together(order, inner)] += 1
            for order in ways:
                ways[order] += (len(parts(order)) > 1) + (len(skew_parts(order)) > 1)
            self.assertEqual(set(ways.values()), {1})

    def test_different_orders_have_different_trees(self):
        for n in range(1, 7):
            self.assertEqual(len({tree(order) for order in orders_of(n)}), len(orders_of(n)))

    def test_wrong_orders(self):
        for told in NO_ORDERS + ((),):
            self.refused(InvalidOrder, told, tree, told)
        self.refused(InvalidOrder, (), tree, order=())

    def test_what_is_no_tree(self):
        for told in NO_TREES:
            self.refused(InvalidPair, told, from_tree, told)
        self.refused(InvalidPair, None, from_tree, tree=None)

    def test_what_is_no_tree_within_one(self):
        for wrong in NO_TREES:
            for told in (
                    ("sum", (ONE, wrong)), ("skew", (wrong, ONE)), ("simple", (2, 4, 1, 3), (ONE, wrong, ONE, ONE)),
                    ("sum", (("skew", (ONE, wrong)), ONE))):
                self.refused(InvalidPair, told, from_tree, told)

    def test_wrong_however_deep(self):
        told = None
        for step in range(5000):
            told = (("sum", "skew")[step % 2], (ONE, told))
        self.refused(InvalidPair, told, from_tree, told)

    def test_wrong_lists_stay_as_they_are(self):
        told = ["sum", [["one"], ["one"]]]
        self.refused(InvalidPair, told, from_tree, told)
        self.same(told, ["sum", [["one"], ["one"]]])
        self.refused(InvalidOrder, told, put_together, (1, 2), told)
        self.same(told, ["sum", [["one"], ["one"]]])


if __name__ == "__main__":
    unittest.main()
