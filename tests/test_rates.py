"""[11], the rates of "counts" of [16], and rates.py."""

import unittest
from fractions import Fraction
from itertools import product
from math import gcd

import plain
from checking import NO_LISTS, Checked
from samples import LARGE, LISTS, WITHOUT

from bannedorders.alternations import endless
from bannedorders.counts import rule
from bannedorders.errors import InvalidList, NoMachine
from bannedorders.lists import is_finite, joined, least, met, mirrored_list, turned_list
from bannedorders.rates import apart, faster, rate

TWO = ((2, 3, 1), (3, 1, 2))
RISING = ((2, 1),)
FIBONACCI = ((2, 3, 1), (3, 1, 2), (3, 2, 1))
# Of one rate, though the shapes differ: 2, 3, and two that are no fractions.
ALIKE = (
    (TWO, ((1, 4, 3, 2), (2, 4, 1, 3), (3, 1, 2, 4), (3, 4, 2, 1))),
    (((2, 1, 3, 4), (3, 2, 1, 4), (4, 1, 2, 3), (4, 2, 1, 3)), ((1, 3, 4, 2), (1, 4, 3, 2), (2, 4, 3, 1), (3, 4, 2, 1))),
    (((1, 2, 3), (1, 3, 2), (2, 1, 3)), ((3, 1, 2), (3, 2, 1), (1, 4, 2, 3), (2, 3, 1, 4), (4, 3, 2, 1))),
    (((3, 1, 4, 2), (4, 1, 3, 2), (4, 3, 1, 2), (4, 3, 2, 1)),
     ((1, 2, 4, 3), (1, 3, 2, 4), (2, 3, 1, 4), (3, 1, 2, 4), (3, 2, 1, 4))),
)
# The rate of the one is less, by less than 1 by 5000.
NEAR = (
    (((2, 3, 4, 1), (2, 4, 3, 1), (3, 1, 4, 2), (3, 4, 2, 1), (4, 3, 1, 2)),
     ((2, 4, 3, 1), (3, 4, 1, 2), (4, 1, 2, 3), (4, 3, 2, 1))),
    (((1, 2, 4, 3), (1, 3, 4, 2), (3, 2, 1, 4)), ((1, 4, 3, 2), (2, 1, 3, 4), (3, 2, 1, 4))),
    (((1, 2, 4, 3), (1, 3, 4, 2), (3, 1, 4, 2), (3, 2, 1, 4)),
     ((1, 4, 3, 2), (2, 1, 3, 4), (2, 3, 1, 4), (3, 1, 2, 4))),
)


def of_layers(most):
    """The list of the orders of falling stretches, each of at most so many things, whose sum they are."""
    return TWO + (tuple(range(most + 1, 0, -1)),)


def sum_of(forbidden):
    """The sum of [11], as a polynomial."""
    return [1] + [-Fraction(*number) for number in rule(forbidden)[1]]


def lowest(number):
    return type(number) is tuple and len(number) == 2 and number[1] > 0 and gcd(*number) == 1


class Rates(Checked):

    def check(self, forbidden):
        shape, low, high = found = rate(forbidden)
        self.assertTrue(type(found) is tuple and len(found) == 3 and type(shape) is tuple)
        self.assertTrue(all(type(number) is int for number in shape + low + high))
        self.assertTrue(shape[0] > 0 and gcd(*shape) == 1)
        # The same roots, each once: what both share with what is derived of them tells.
        whole = sum_of(forbidden)
        self.assertEqual(plain.divided(whole, shape), [])
        self.assertEqual(plain.common(list(shape), plain.derived(shape)), [1])
        shared = plain.common(whole, plain.derived(whole))
        self.assertEqual(len(shape) + len(shared), len(whole) + 1)
        self.assertTrue(lowest(low) and lowest(high))
        low, high = Fraction(*low), Fraction(*high)
        self.assertTrue(low <= high and high - low <= Fraction(1, 1000))
        self.assertTrue(plain.value(shape, low) <= 0 <= plain.value(shape, high))
        greatest = plain.greatest_root(shape)
        self.assertTrue(low - Fraction(1, 10 ** 7) <= greatest <= high + Fraction(1, 10 ** 7), (forbidden, greatest))
        is_fraction = plain.value(shape, round(greatest)) == 0 and abs(greatest - round(greatest)) < 1e-6
        self.assertEqual(low == high, is_fraction)
        if is_fraction:
            self.assertEqual(low, round(greatest))
        return greatest

    def test_by_hand(self):
        self.same(rate(TWO), ((1, -2, 0), (2, 1), (2, 1)))
        self.same(rate(RISING), ((1, -1), (1, 1), (1, 1)))
        self.same(rate(((1, 3, 2), (3, 2, 1))), ((1, -1), (1, 1), (1, 1)))
        shape, low, high = rate(FIBONACCI)
        self.same(shape, (1, -1, -1))
        self.assertTrue(Fraction(*low) < Fraction(1618034, 10 ** 6) < Fraction(*high) + Fraction(1, 10 ** 6))

    def test_finite_lots(self):
        for forbidden in (((1,),), ((1, 2), (2, 1)), ((1, 2, 3), (3, 2, 1)), ((2, 1), (1, 2, 3)), ((2, 1), (1,))):
            self.same(rate(forbidden), ((1, 0), (0, 1), (0, 1)))

    def test_as_the_words_say(self):
        for forbidden in LISTS:
            self.assertEqual(self.check(forbidden) == 0, is_finite(forbidden))

    def test_more_lists(self):
        for pair in ALIKE + NEAR:
            for forbidden in pair:
                self.check(forbidden)
        for most in (1, 2, 3, 4, 7, 11):
            self.check(of_layers(most))

    def test_lists_with_one_rate(self):
        for forbidden in LISTS:
            for same in (least(forbidden), forbidden[::-1], turned_list(forbidden), mirrored_list(forbidden)):
                self.same(rate(same), rate(forbidden))
                self.same(faster(forbidden, same), 0)

    def test_the_largest(self):
        for forbidden, _ in LARGE:
            self.soon(rate, forbidden)
            self.check(forbidden)


class Faster(Checked):

    def test_by_hand(self):
        self.same([faster(TWO, RISING), faster(RISING, TWO), faster(TWO, TWO)], [1, -1, 0])
        self.same([faster(FIBONACCI, TWO), faster(FIBONACCI, RISING), faster(RISING, ((1, 2),))], [-1, 1, 0])
        # Counts that grow without end, but as a polynomial, are not faster than such as do not grow.
        self.same(faster(((1, 3, 2), (3, 2, 1)), RISING), 0)

    def test_finite_lots(self):
        finite = (((1,),), ((1, 2, 3), (3, 2, 1)), ((1, 2), (2, 1)))
        for one, other in product(finite, repeat=2):
            self.same(faster(one, other), 0)
        for one in finite:
            self.same([faster(one, RISING), faster(RISING, one), faster(FIBONACCI, one)], [-1, 1, 1])

    def test_as_the_words_say(self):
        rates = {forbidden: plain.greatest_root(rate(forbidden)[0]) for forbidden in set(LISTS)}
        for one, other in product(rates, repeat=2):
            less = rates[one] - rates[other]
            self.same(faster(one, other), 0 if abs(less) < 1e-7 else 1 if less > 0 else -1)

    def test_alike(self):
        for one, other in ALIKE:
            shapes = rate(one)[0], rate(other)[0]
            self.assertNotEqual(shapes[0], shapes[1])
            self.assertGreater(len(plain.common(list(shapes[0]), list(shapes[1]))), 1)
            self.same([faster(one, other), faster(other, one)], [0, 0])
            self.same([faster(one, one), faster(one, turned_list(other))], [0, 0])

    def test_near(self):
        for one, other in NEAR:
            apart_by = plain.greatest_root(rate(other)[0]) - plain.greatest_root(rate(one)[0])
            self.assertTrue(0 < apart_by < 1 / 5000)
            self.same([faster(one, other), faster(other, one)], [-1, 1])

    def test_near_to_two(self):
        """Each less than 2, and the more so the shorter the stretches: the last ones by less than 1 by 2000."""
        lists = [of_layers(most) for most in range(1, 12)] + [TWO]
        for at, one in enumerate(lists):
            for place, other in enumerate(lists):
                self.same(faster(one, other), (at > place) - (at < place))

    def test_nearer_still(self):
        """Shapes whose rates are less than 2, by less than 1 by 2 to the power of 79, 80, and 2 itself."""
        shapes = [[1] + [-1] * 80, [1] + [-1] * 81, [1, -2]]
        for at, one in enumerate(shapes):
            for place, other in enumerate(shapes):
                both = one if at == place else plain.times(one, other)
                self.same(self.soon(apart, one, other, both, 2), (at > place) - (at < place))

    def test_met_and_joined(self):
        small = [forbidden for forbidden in LISTS if all(len(pattern) <= 3 for pattern in forbidden)]
        for one, other in product(small, repeat=2):
            greater = one if faster(one, other) >= 0 else other
            self.same(faster(joined(one, other), greater), 0)
            self.assertIn(faster(met(one, other), greater), (0, -1))

    def test_the_largest(self):
        lists = [forbidden for forbidden, _ in LARGE]
        rates = [Fraction(*rate(forbidden)[1]) for forbidden in lists]
        for at, one in enumerate(lists):
            for place, other in enumerate(lists):
                wanted = (rates[at] > rates[place]) - (rates[at] < rates[place])
                if at <= place:
                    self.same(self.soon(faster, one, other), wanted)
        self.same(self.soon(faster, lists[0], turned_list(lists[0])), 0)


class Wrong(Checked):

    def test_wrong_lists(self):
        for told in NO_LISTS:
            self.refused(InvalidList, told, rate, told)
            self.refused(InvalidList, told, faster, told, TWO)
            self.refused(InvalidList, told, faster, TWO, told)

    def test_lists_without_a_machine(self):
        for forbidden, kind in WITHOUT:
            self.refused_with(NoMachine, kind, rate, forbidden)
            self.refused_with(NoMachine, kind, faster, forbidden, TWO)
            self.refused_with(NoMachine, kind, faster, TWO, forbidden)

    def test_several_wrong_arguments(self):
        """Those of the one first, then those of the other one."""
        self.refused(InvalidList, None, faster, None, ())
        self.refused(InvalidList, None, faster, other=[], one=None)
        wrong = [(2, 1)]
        self.refused(InvalidList, wrong, faster, wrong, None)
        self.same(wrong, [(2, 1)])
        self.assertIsNotNone(endless(()))
        self.refused_with(NoMachine, (-1, -1), faster, (), None)
        self.refused_with(NoMachine, (1, -1), faster, ((2, 3, 1),), ())


if __name__ == "__main__":
    unittest.main()
