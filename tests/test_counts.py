"""[11], "counts" of [16], and counts.py."""

import unittest
from fractions import Fraction
from itertools import combinations, product
from math import comb

import plain
from checking import NO_INTEGERS, NO_LISTS, Checked
from samples import LARGE, LISTS, WITHOUT

from bannedorders.alternations import endless
from bannedorders.counts import count, counts, degree, rule
from bannedorders.errors import InvalidList, InvalidNumber, NoMachine
from bannedorders.lists import inverse_list, is_finite, joined, least, met, mirrored_list, turned_list
from bannedorders.machines import machine

TWO = ((2, 3, 1), (3, 1, 2))
ONE_ARGUMENT = (rule, degree)


def by_words(forbidden, most):
    """The counts to a length for which there are too many orders: by the words that its machine spells."""
    rows, ends = machine(forbidden)
    ways, found = {0: 1}, [1]
    for _ in range(most):
        longer = {}
        for state, many in ways.items():
            for _, to in rows[state]:
                longer[to] = longer.get(to, 0) + many
        ways = longer
        found.append(sum(ways.get(end, 0) for end in ends))
    return found


def is_polynomial(values, degree):
    """Whether values, more than so many, are those of a polynomial of just this degree, -1 for 0."""
    for _ in range(degree + 1):
        if set(values) == {0}:
            return False
        values = [after - value for value, after in zip(values, values[1:])]
    return set(values) == {0}


class Counts(Checked):

    def test_by_hand(self):
        self.same(counts(TWO, 6), [1, 1, 2, 4, 8, 16, 32])
        self.same(counts(((2, 1),), 4), [1, 1, 1, 1, 1])
        # All that rises and then falls, but for the place of the greatest number.
        self.same(counts(((2, 1, 3), (3, 1, 2)), 5), [1, 1, 2, 4, 8, 16])
        self.same(counts(((1, 2, 3), (3, 2, 1)), 7), [1, 1, 2, 4, 4, 0, 0, 0])
        self.same(counts(((1, 3, 2), (3, 2, 1)), 6), [1] + [comb(n, 2) + 1 for n in range(1, 7)])

    def test_the_edges(self):
        self.same([counts(TWO, 0), counts(((1,),), 0), counts(((1,),), 3)], [[1], [1], [1, 0, 0, 0]])
        self.same([count(TWO, 0), count(((1,),), 0), count(((1,),), 1), count(((1,),), 60)], [1, 1, 0, 0])
        self.same(counts(((1, 2), (2, 1)), 4), [1, 1, 0, 0, 0])
        self.same([count(TWO, 60), len(counts(TWO, 60)), count(((2, 1),), 60)], [2 ** 59, 61, 1])

    def test_as_the_words_say(self):
        for forbidden in LISTS:
            wanted = plain.counts(forbidden, 7)
            self.same(counts(forbidden, 7), wanted)
            self.same([count(forbidden, n) for n in range(8)], wanted)

    def test_of_the_machine(self):
        for forbidden in LISTS:
            wanted = by_words(forbidden, 60)
            self.same(counts(forbidden, 60), wanted)
            self.same([count(forbidden, n) for n in (13, 59, 60)], [wanted[n] for n in (13, 59, 60)])

    def test_all_pairs_of_three(self):
        for forbidden in combinations(plain.orders_of(3), 2):
            if endless(forbidden) is None:
                self.same(counts(forbidden, 7), plain.counts(forbidden, 7))
            else:
                self.refused_with(NoMachine, endless(forbidden), counts, forbidden, 7)

    def test_lists_with_one_lot(self):
        for forbidden in LISTS:
            wanted = counts(forbidden, 20), rule(forbidden), degree(forbidden)
            for same in (forbidden[::-1] + forbidden, least(forbidden), turned_list(forbidden),
                         mirrored_list(forbidden)):
                self.same((counts(same, 20), rule(same), degree(same)), wanted)
            # To be inverse keeps the counts, not the machine.
            turned_over = inverse_list(forbidden)
            if endless(turned_over) is None:
                self.same((counts(turned_over, 20), rule(turned_over), degree(turned_over)), wanted)

    def test_met_and_joined(self):
        """Of both and of at least one together there are as many as of each."""
        small = [forbidden for forbidden in LISTS if all(len(pattern) <= 3 for pattern in forbidden)]
        self.assertGreater(len(small), 8)
        for one, other in product(small, repeat=2):
            both, either = counts(met(one, other), 15), counts(joined(one, other), 15)
            wanted = [a + b for a, b in zip(counts(one, 15), counts(other, 15))]
            self.same([a + b for a, b in zip(both, either)], wanted)

    def test_finite_lots(self):
        for forbidden in LISTS:
            found = counts(forbidden, 30)
            self.assertEqual(is_finite(forbidden), found[30] == 0)
            self.assertEqual(is_finite(forbidden), degree(forbidden) == -1)

    def test_the_largest(self):
        for forbidden, _ in LARGE:
            found = self.soon(counts, forbidden, 60)
            self.same(found[:7], plain.counts(forbidden, 6))
            self.same(found, by_words(forbidden, 60))
            self.same(self.soon(count, forbidden, 60), found[60])

    def test_returned_lists_are_new(self):
        for forbidden in (TWO, ((1,),)):
            for n in (0, 3):
                first = counts(forbidden, n)
                wanted = list(first)
                first.append("more")
                self.same(counts(forbidden, n), wanted)


class Rules(Checked):

    def test_by_hand(self):
        self.same(rule(TWO), ((1, 1), ((2, 1), (0, 1))))
        self.same(rule(((2, 3, 1), (3, 1, 2), (3, 2, 1))), ((1, 1), ((1, 1), (1, 1))))
        self.same(rule(((1, 3, 2), (3, 2, 1))), ((1, 1, 2), ((3, 1), (-3, 1), (1, 1))))

    def test_rules_of_one_number(self):
        self.same([rule(((2, 1),)), rule(((1, 2),)), rule(((1,),))], [((1,), ((1, 1),))] * 2 + [((1,), ((0, 1),))])

    def test_rules_of_nearly_as_many_numbers_as_the_machine_has_states(self):
        for forbidden, states, many in (
                (((2, 3, 1), (3, 2, 1), (1, 2, 3, 4)), 7, 7), (((3, 1, 2), (2, 3, 1, 4), (4, 3, 2, 1)), 7, 7),
                (((2, 3, 1), (1, 2, 3, 4), (4, 3, 2, 1)), 12, 10),
                (((3, 2, 1, 4), (3, 4, 2, 1), (4, 1, 2, 3)), 13, 11)):
            firsts, numbers = rule(forbidden)
            terms = by_words(forbidden, 60)
            self.assertEqual([len(machine(forbidden)[0]), len(numbers)], [states, many])
            self.assertEqual([Fraction(*number) for number in numbers], plain.rule(terms))
            self.same(firsts, tuple(terms[:many]))

    def test_falling_stretches(self):
        """Of orders that are sums of falling stretches, each of at most so many things."""
        for most in range(1, 12):
            forbidden = TWO + (tuple(range(most + 1, 0, -1)),)
            self.same(rule(forbidden), (tuple([1] + [2 ** k for k in range(most - 1)]), ((1, 1),) * most))

    def test_noughts(self):
        self.same(rule(((1, 2), (2, 1))), ((1, 1), ((0, 1), (0, 1))))
        self.same(rule(((1, 2, 3), (2, 1))), ((1, 1, 1), ((0, 1),) * 3))
        self.same(rule(((1, 2, 3), (3, 2, 1))), ((1, 1, 2, 4, 4), ((0, 1),) * 5))
        self.same(rule(tuple(plain.orders_of(3))), ((1, 1, 2), ((0, 1),) * 3))

    def test_as_the_words_say(self):
        """The shortest one, and there is just one as short."""
        for forbidden in LISTS + tuple(forbidden for forbidden, _ in LARGE):
            firsts, numbers = self.soon(rule, forbidden)
            terms = by_words(forbidden, 200)
            self.same(firsts, tuple(terms[:len(numbers)]))
            self.assertTrue(all(type(n) is tuple and len(n) == 2 and n[1] > 0 for n in numbers))
            for n in range(len(numbers), len(terms)):
                due = sum(Fraction(*number) * terms[n - 1 - at] for at, number in enumerate(numbers))
                self.assertEqual(terms[n], due)
            self.assertEqual([Fraction(*number) for number in numbers], plain.rule(terms[:80]))
            self.assertEqual([(Fraction(*number).numerator, Fraction(*number).denominator) for number in numbers],
                             list(numbers))

    def test_it_leads_on(self):
        for forbidden in LISTS:
            firsts, numbers = rule(forbidden)
            terms = list(firsts)
            while len(terms) < 61:
                terms.append(sum(top * term for (top, _), term in zip(numbers, terms[::-1])))
            self.same(terms[:61], counts(forbidden, 60))


class Degrees(Checked):

    def test_by_hand(self):
        self.same([degree(((2, 1),)), degree(((1, 2),)), degree(((1, 3, 2), (3, 2, 1)))], [0, 0, 2])
        self.same([degree(TWO), degree(((2, 3, 1), (3, 1, 2), (3, 2, 1)))], [None, None])
        self.same([degree(((1,),)), degree(((1, 2), (2, 1))), degree(((1, 2, 3), (3, 2, 1)))], [-1, -1, -1])
        # Of n from 1 on there are n: not those of one degree less or more.
        self.same(degree(((2, 3, 1), (3, 1, 2), (1, 3, 2))), 1)

    def test_from_some_n_on(self):
        """The first counts need not be those of the polynomial."""
        forbidden = ((1, 2, 3), (2, 3, 1), (3, 1, 2), (2, 1, 4, 3))
        found = counts(forbidden, 12)
        self.same(degree(forbidden), 0)
        self.assertNotEqual(found[:6], [found[12]] * 6)

    def test_as_the_words_say(self):
        met_degrees = set()
        for forbidden in LISTS + tuple(product(plain.orders_of(3), repeat=2)):
            if endless(forbidden) is None:
                found = degree(forbidden)
                met_degrees.add(found)
                values = by_words(forbidden, 60)[30:]
                for other in range(-1, 8):
                    self.same(is_polynomial(values, other), other == found)
        self.assertTrue({None, -1, 0, 2, 3, 4} <= met_degrees, met_degrees)

    def test_the_largest(self):
        for forbidden, _ in LARGE:
            self.same(self.soon(degree, forbidden), None)
            values = by_words(forbidden, 60)[20:]
            self.assertFalse(any(is_polynomial(values, other) for other in range(-1, 20)))
        falling = ((5, 4, 3, 2, 1), (2, 3, 1), (2, 1, 4, 3))
        found = self.soon(degree, falling)
        self.assertTrue(is_polynomial(counts(falling, 60)[30:], found))


class Wrong(Checked):

    def test_wrong_lists(self):
        for told in NO_LISTS:
            for call in ONE_ARGUMENT:
                self.refused(InvalidList, told, call, told)
            self.refused(InvalidList, told, count, told, 3)
            self.refused(InvalidList, told, counts, told, 3)

    def test_lists_without_a_machine(self):
        for forbidden, kind in WITHOUT:
            for call in ONE_ARGUMENT:
                self.refused_with(NoMachine, kind, call, forbidden)
            self.refused_with(NoMachine, kind, count, forbidden, 3)
            self.refused_with(NoMachine, kind, counts, forbidden, 3)

    def test_wrong_n(self):
        for n in NO_INTEGERS + (-1, -10 ** 30):
            for call in (count, counts):
                self.refused(InvalidNumber, n, call, TWO, n)
                self.refused(InvalidNumber, n, call, n=n, forbidden=((1,),))

    def test_several_wrong_arguments(self):
        for call in (count, counts):
            for n in NO_INTEGERS + (-1,):
                self.refused(InvalidList, None, call, None, n)
                self.refused_with(NoMachine, (-1, -1), call, (), n)
                self.refused_with(NoMachine, (1, -1), call, ((2, 3, 1),), n)
            wrong = [(2, 1)]
            self.refused(InvalidList, wrong, call, n=-1, forbidden=wrong)
            self.same(wrong, [(2, 1)])


if __name__ == "__main__":
    unittest.main()
