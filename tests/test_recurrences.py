"""recurrences.py: the shortest rules behind [11], whatever the modulus."""

import random
import unittest
from fractions import Fraction

import plain
from checking import Checked

from bannedorders.recurrences import follows, inverse_of, power_sums, rule_modulo, shortest_rule


def led_on(firsts, rule, many):
    terms = list(firsts)
    while len(terms) < many:
        terms.append(sum(number * term for number, term in zip(rule, terms[::-1])))
    return terms


class Shortest(Checked):

    def test_by_hand(self):
        self.same(shortest_rule([1, 1, 2, 3, 5, 8]), [1, 1])
        self.same(shortest_rule([1, 1, 2, 4, 8, 16]), [2, 0])
        self.same([shortest_rule([1, 0, 0, 0]), shortest_rule([7, 7])], [[0], [1]])
        self.same(shortest_rule([0, 0, 3, 0, 0, 0]), [0, 0, 0])

    def test_as_the_words_say(self):
        for seed in range(60):
            chance = random.Random(seed)
            wide = chance.randint(1, 6)
            rule = [chance.randint(-3, 3) for _ in range(wide)]
            terms = led_on([chance.randint(0, 4) for _ in range(wide)], rule, 2 * wide + 14)
            if any(terms):
                found = shortest_rule(terms)
                self.assertEqual([Fraction(number) for number in found], plain.rule(terms))
                self.assertTrue(follows(terms, found))

    def test_large_numbers(self):
        """Greater ones than the first modulus, in the terms and in the rule."""
        for rule in ([10 ** 30, -10 ** 50], [3, 10 ** 90 + 1, -2], [2 ** 200, 0, -(2 ** 300)]):
            terms = led_on([1, 2, 5][:len(rule)], rule, 4 * len(rule))
            self.same(shortest_rule(terms), rule)

    def test_long_rules(self):
        chance = random.Random(5)
        rule = [chance.randint(0, 20) for _ in range(100)]
        terms = led_on([chance.randint(0, 9) for _ in range(100)], rule, 202)
        self.same(self.soon(shortest_rule, terms), rule)

    def test_a_modulus_that_does_not_do(self):
        """What must be divided by has a divisor in common with it, or the rule is another one by it."""
        terms = list(range(1, 30, 3))
        self.same(rule_modulo(terms, 3), [1])
        self.same(follows(terms, [1]), False)
        self.same(rule_modulo([15 * term for term in terms], 5 * 257), None)
        self.same(rule_modulo(terms, 257), [2, 256])

    def test_inverses(self):
        for modulus in (2, 17, 257, 2 ** 64 + 1, 2 ** 128 + 1):
            for number in (1, 2 ** 127 - 1, modulus - 1, modulus + 1, -1):
                self.assertEqual(number * inverse_of(number, modulus) % modulus, 1 % modulus)


class PowerSums(Checked):

    def test_by_hand(self):
        # Roots 2 and 0; 2, 2 and 3; 0 twice.
        self.same(power_sums([2, 0], 5), [2, 2, 4, 8, 16])
        self.same(power_sums([7, -16, 12], 5), [3, 7, 17, 43, 113])
        self.same(power_sums([0, 0], 3), [2, 0, 0])

    def test_roots_that_are_known(self):
        for seed in range(20):
            chance = random.Random(seed)
            roots = [chance.randint(-4, 4) for _ in range(chance.randint(1, 6))]
            product = [1]
            for root in roots:
                product = plain.times(product, [1, -root])
            rule = [-number for number in product[1:]]
            self.same(power_sums(rule, 12), [sum(root ** at for root in roots) for at in range(12)])
            once = [1]
            for root in sorted(set(roots)):
                once = plain.times(once, [1, -root])
            self.same(shortest_rule(power_sums(rule, 2 * len(rule))), [-number for number in once[1:]])


if __name__ == "__main__":
    unittest.main()
