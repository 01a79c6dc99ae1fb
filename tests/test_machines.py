"""[10], "machines" of [16], and machines.py."""

import random
import unittest
from itertools import product

import plain
from checking import NO_INTEGERS, NO_LETTERS, NO_LISTS, NO_MACHINES, NO_WORDS, ROW, Checked
from samples import LARGE, LISTS

from bannedorders.alternations import KINDS, endless
from bannedorders.errors import InvalidList, InvalidMachine, InvalidNumber, InvalidWord, NoMachine
from bannedorders.lists import joined, least, let_of, met
from bannedorders.machines import (
    is_machine, joined_machine, least_machine, less_machine, machine, met_machine, same_words, spells, words)
from bannedorders.slots import word_of

OF_TWO = (same_words, met_machine, joined_machine, less_machine)
A, B, C = (1, 0), (1, 3), (2, 1)
NOTHING = (((),), ())
# The words of () alone, of all that A and B spell, of A twice, of B behind any number of A.
EMPTY = (((),), (0,))
ALL = ((((A, 0), (B, 0)),), (0,))
TWICE = ((((A, 1),), ((A, 2),), ()), (2,))
RISING = ((((A, 0), (B, 1)), ()), (1,))
# The same as RISING, with states alike, not reached and leading nowhere.
STATES_ALIKE = ((((A, 2), (B, 1)), (), ((A, 0), (B, 3)), ()), (1, 3))
NOT_REACHED = ((((A, 0), (B, 2)), ((C, 0),), ()), (1, 2))
LEADING_NOWHERE = ((((A, 0), (B, 1), (C, 2)), ((A, 3),), ((B, 3),), ((A, 2), (B, 3))), (1,))
OTHERWISE_NUMBERED = ((((A, 2), (B, 1)), (), ((A, 0), (B, 1))), (1,))
MACHINES = (
    NOTHING, EMPTY, ALL, TWICE, RISING, STATES_ALIKE, NOT_REACHED, LEADING_NOWHERE, OTHERWISE_NUMBERED,
    (((), ()), (1,)), ((((A, 0),),), ()), ((((A, 1),), ((A, 0),)), (0,)), ((((A, 1),), ((A, 0),)), (1,)),
    ((((C, 1),), ((C, 0),)), (0, 1)), ((((A, 1), (B, 2)), ((C, 0),), ((C, 0),)), (0,)),
    ((((A, 1), (B, 2)), ((C, 0),), ((B, 0),)), (0,)), ((((A, 1), (B, 1), (C, 1)), ((A, 0),)), (0, 1)),
    ((((A, 1),), ((A, 2),), ((A, 3),), ((A, 1),)), (0, 2)), ((((B, 1),), ((A, 1), (B, 0), ((7, 2), 1))), (1,)),
)
LETTERS = tuple((slot, way) for slot in (1, 2, 3) for way in (0, 1, 2, 3))


def some_machine(chance, states, many):
    """A machine by chance: it may have any states that are of no use."""
    rows = tuple(
        tuple((letter, chance.randrange(states)) for letter in sorted(chance.sample(LETTERS, chance.randint(0, many))))
        for _ in range(states))
    ends = sorted(chance.sample(range(states), chance.randint(0, states // 2 + 1)))
    return (rows, tuple(ends))


def full_machine(chance, states, many):
    """A machine by chance of which each state has so many letters."""
    rows = tuple(
        tuple((letter, chance.randrange(states)) for letter in sorted(chance.sample(LETTERS, many)))
        for _ in range(states))
    return (rows, tuple(range(0, states, 3)))


def ring(states):
    """The machine of the words whose length is divided by how many states it has."""
    return (tuple(tuple((letter, (at + 1) % states) for letter in LETTERS) for at in range(states)), (0,))


def words_to(told, most):
    return {word for n in range(most + 1) for word in plain.words(told, n)}


SOME = tuple(some_machine(random.Random(seed), 1 + seed % 6, 3) for seed in range(60))


class IsMachine(Checked):

    def test_machines(self):
        of_any_slot = ((((((10 ** 30, 3), 0)),),), ())
        for told in MACHINES + SOME + (ring(40), ((ROW, ()), ()), ((ROW, ROW), (0, 1)), of_any_slot):
            self.same(is_machine(told), True)

    def test_what_is_none(self):
        for told in NO_MACHINES:
            self.same(is_machine(told), False)


class Spells(Checked):

    def test_by_hand(self):
        self.same([spells(RISING, word) for word in ((), (A,), (B,), (A, B), (B, A), (A, A, A, B), (C,))],
                  [False, False, True, True, False, True, False])

    def test_the_edges(self):
        self.same([spells(NOTHING, ()), spells(NOTHING, (A,)), spells(EMPTY, ()), spells(EMPTY, (B,))],
                  [False, False, True, False])
        self.same([spells(ALL, ((10 ** 30, 0),)), spells(ALL, (A, B) * 100)], [False, True])

    def test_as_the_words_say(self):
        for told in MACHINES + SOME:
            letters = sorted({letter for row in told[0] for letter, _ in row} | {A})
            for n in range(4):
                for word in product(letters, repeat=n):
                    self.same(spells(told, word), plain.end(told, word) in told[1])

    def test_wrong_words(self):
        for told in NO_WORDS:
            self.refused(InvalidWord, told, spells, RISING, told)
            self.refused(InvalidWord, told, spells, word=told, machine=NOTHING)
        # Also behind letters that the machine does not take.
        for letter in NO_LETTERS:
            told = (B, B, letter)
            self.refused(InvalidWord, told, spells, RISING, told)


class Words(Checked):

    def test_by_hand(self):
        self.same(words(RISING, 3), [(A, A, B)])
        self.same(words(ALL, 2), [(A, A), (A, B), (B, A), (B, B)])

    def test_the_edges(self):
        self.same([words(told, 0) for told in (NOTHING, EMPTY, ALL, RISING)], [[], [()], [()], []])
        self.same([words(told, 5) for told in (NOTHING, EMPTY, TWICE)], [[], [], []])

    def test_as_the_words_say(self):
        for told in MACHINES + SOME:
            for n in range(5):
                self.same(words(told, n), plain.words(told, n))

    def test_the_largest(self):
        # Of far more ways than words: only the last of many letters leads to an end.
        rows = tuple(tuple((letter, (at + 1) % 40) for letter in LETTERS) for at in range(39)) + ((),)
        self.same(self.soon(words, (rows, (39,)), 8), [])
        rows = (((A, 0), (B, 0), (C, 1)), tuple((letter, 1) for letter in LETTERS))
        self.assertEqual(len(self.soon(words, (rows, (0,)), 8)), 2 ** 8)
        self.assertEqual(len(self.soon(words, (rows[:1] + ((),), (1,)), 8)), 2 ** 7)

    def test_returned_lists_are_new(self):
        for told, n in ((NOTHING, 0), (EMPTY, 0), (RISING, 3)):
            first = words(told, n)
            wanted = list(first)
            first.append("more")
            self.same(words(told, n), wanted)

    def test_wrong_n(self):
        for n in NO_INTEGERS + (-1, -10 ** 30):
            self.refused(InvalidNumber, n, words, RISING, n)
            self.refused(InvalidNumber, n, words, n=n, machine=NOTHING)


class OfLists(Checked):

    def test_by_hand(self):
        self.same(machine(((2, 1),)), (((((1, 1), 0), ((1, 3), 1)), ()), (1,)))
        self.same(machine(((1, 2),)), (((((1, 2), 0), ((1, 3), 1)), ()), (1,)))
        self.same(machine(((1, 2), (2, 1))), (((((1, 3), 1),), ()), (1,)))

    def test_the_edges(self):
        self.same([machine(((1,),)), machine(((2, 1), (1,)))], [NOTHING, NOTHING])

    def test_as_the_words_say(self):
        """It spells just the whole words of what is let, and is the least."""
        for forbidden in LISTS:
            found = machine(forbidden)
            self.assertTrue(is_machine(found) and plain.is_least(found))
            self.same(words(found, 0), [])
            for n in range(1, 6):
                wanted = sorted(word for order in plain.lot(forbidden, n) for word, _ in plain.ways_to(n)[order])
                self.same(words(found, n), wanted)
                self.same(plain.words(found, n), wanted)

    def test_longer_orders(self):
        for forbidden in LISTS:
            found = machine(forbidden)
            for n in (6, 7):
                self.same(words(found, n), sorted(word_of(order) for order in let_of(forbidden, n)))

    def test_lists_with_one_lot(self):
        for forbidden in LISTS:
            self.same(machine(forbidden[::-1] + forbidden), machine(forbidden))
            self.same(machine(least(forbidden)), machine(forbidden))
            self.same(machine(forbidden + (forbidden[0] + (len(forbidden[0]) + 1,),)), machine(forbidden))

    def test_the_largest(self):
        for forbidden, states in LARGE:
            found = self.soon(machine, forbidden)
            self.assertEqual(len(found[0]), states)
            self.assertTrue(plain.is_least(found))
            for n in range(1, 8):
                self.same(words(found, n), sorted(word_of(order) for order in let_of(forbidden, n)))

    def test_lists_that_the_program_tells(self):
        one, other = ((1, 2, 3), (2, 3, 1)), ((1, 3, 2), (3, 2, 1))
        both, either = self.soon(machine, met(one, other)), self.soon(machine, joined(one, other))
        self.same(both, met_machine(machine(one), machine(other)))
        self.same(either, joined_machine(machine(one), machine(other)))

    def test_lists_without_one(self):
        lists = [(), ((2, 4, 1, 3),), ((2, 4, 1, 3), (3, 1, 4, 2))] + [(pattern,) for pattern in plain.orders_of(3)]
        met_kinds = set()
        for forbidden in lists:
            stopped = [
                any(p in plain.patterns_in(plain.alternation(kind, len(p))) for p in forbidden) for kind in KINDS]
            first = KINDS[stopped.index(False)]
            met_kinds.add(first)
            self.refused_with(NoMachine, first, machine, forbidden)
        self.assertEqual(met_kinds, set(KINDS))
        self.refused_with(NoMachine, (-1, -1), machine, ())

    def test_just_the_lists_that_stop_all_four(self):
        for patterns in product(plain.orders_of(3), repeat=2):
            if endless(patterns) is None:
                self.assertTrue(is_machine(machine(patterns)))
            else:
                self.refused_with(NoMachine, endless(patterns), machine, patterns)

    def test_wrong_lists(self):
        for told in NO_LISTS:
            self.refused(InvalidList, told, machine, told)
        self.refused(InvalidList, None, machine, forbidden=None)


class Least(Checked):

    def test_by_hand(self):
        for told in (RISING, STATES_ALIKE, NOT_REACHED, LEADING_NOWHERE, OTHERWISE_NUMBERED):
            self.same(least_machine(told), RISING)
        self.same(least_machine(TWICE), TWICE)
        self.same(least_machine(((((A, 1),), ((A, 0),)), (0, 1))), ((((A, 0),),), (0,)))

    def test_what_spells_nothing(self):
        for told in (
                NOTHING, ((((A, 0),),), ()), (((), ()), (1,)), (((), ((B, 0),)), (1,)),
                ((((A, 1),), ((A, 0), (B, 2)), ((C, 1),), ((C, 1),)), (3,))):
            self.same(least_machine(told), NOTHING)
        self.same(least_machine((((), ((A, 0),)), (0,))), EMPTY)

    def test_as_the_words_say(self):
        for told in MACHINES + SOME:
            found = least_machine(told)
            self.assertTrue(is_machine(found) and plain.is_least(found))
            self.assertEqual(words_to(found, 5), words_to(told, 5))
            self.same(least_machine(found), found)

    def test_numbered_as_they_are_met(self):
        told = ((((A, 3), (B, 1)), ((C, 0),), (), ((A, 2), (B, 1))), (2,))
        self.same(least_machine(told), ((((A, 1), (B, 2)), ((A, 3), (B, 2)), ((C, 0),), ()), (3,)))

    def test_states_that_only_long_words_tell_apart(self):
        told = ring(40)
        self.same(self.soon(least_machine, told), told)
        self.same(self.soon(least_machine, (told[0], (0, 20))), ring(20))
        self.same(self.soon(least_machine, (told[0], tuple(range(40)))), ring(1))

    def test_the_largest(self):
        for seed in range(5):
            told = full_machine(random.Random(seed), 40, 12)
            found = self.soon(least_machine, told)
            self.assertTrue(plain.is_least(found))
            self.same(same_words(found, told), None)


class OfTwo(Checked):

    def check(self, one, other, most):
        in_one, in_other = words_to(one, most), words_to(other, most)
        for call, wanted in (
                (met_machine, in_one & in_other), (joined_machine, in_one | in_other),
                (less_machine, in_one - in_other)):
            found = call(one, other)
            self.assertTrue(is_machine(found) and plain.is_least(found))
            self.assertEqual(words_to(found, most), wanted)
        return sorted(in_one ^ in_other, key=lambda word: (len(word), word))

    def test_by_hand(self):
        self.same(met_machine(ALL, RISING), RISING)
        self.same(joined_machine(NOTHING, STATES_ALIKE), RISING)
        self.same(less_machine(RISING, TWICE), RISING)
        self.same(less_machine(ALL, ALL), NOTHING)
        self.same(joined_machine(EMPTY, TWICE), ((((A, 1),), ((A, 2),), ()), (0, 2)))
        self.same(same_words(RISING, STATES_ALIKE), None)
        self.same([same_words(RISING, TWICE), same_words(TWICE, RISING), same_words(ALL, RISING)], [(B,), (B,), ()])
        self.same(same_words(TWICE, NOTHING), (A, A))

    def test_what_spells_nothing(self):
        for told in MACHINES:
            self.same(met_machine(told, NOTHING), NOTHING)
            self.same(less_machine(NOTHING, told), NOTHING)
            self.same([joined_machine(told, NOTHING), less_machine(told, NOTHING)], [least_machine(told)] * 2)

    def test_as_the_words_say(self):
        for one, other in product(MACHINES, repeat=2):
            apart = self.check(one, other, 4)
            first = same_words(one, other)
            if apart:
                self.same(first, apart[0])
            else:
                self.same(least_machine(one) == least_machine(other), first is None)

    def test_by_chance(self):
        for one, other in zip(SOME[:30], SOME[30:]):
            apart = self.check(one, other, 5)
            first = same_words(one, other)
            if apart:
                self.same(first, apart[0])
            elif first is not None:
                self.assertTrue(len(first) > 5 and spells(one, first) != spells(other, first))

    def test_the_first_word_that_parts(self):
        """The shorter word first, whichever machine spells it, and of one length the lesser one."""
        one = ((((A, 1), (B, 2)), ((C, 3),), (), ()), (2, 3))
        other = ((((B, 1), (C, 1)), ()), (1,))
        self.same([same_words(one, other), same_words(other, one)], [(C,), (C,)])
        self.same(same_words(((((A, 1), (B, 2)), ((C, 2),), ()), (2,)), ((((B, 1),), ()), (1,))), (A, C))
        self.same(same_words(((((C, 1),), ((B, 2),), ()), (2,)), ((((C, 1),), ((A, 2),), ()), (2,))), (C, A))

    def test_one_lot_exactly_if_one_machine(self):
        for one, other in product(LISTS[:12], repeat=2):
            both = machine(one), machine(other)
            self.assertEqual(same_words(*both) is None, least(one) == least(other))
            self.same(met_machine(*both), machine(met(one, other)))

    def test_the_largest(self):
        chance = random.Random(7)
        some = (full_machine(chance, 40, 12), full_machine(chance, 40, 11))
        pairs = [some, some[::-1], (ring(40), ring(39)), (ring(39), ring(40))]
        for one, other in pairs:
            for call in (met_machine, joined_machine, less_machine):
                self.assertTrue(is_machine(self.soon(call, one, other)))
            first = self.soon(same_words, one, other)
            self.assertNotEqual(spells(one, first), spells(other, first))
        self.same(same_words(ring(40), ring(39)), (A,) * 39)
        # 40 and 39 share no divisor, so both end at once after 1560 letters.
        self.assertEqual(len(met_machine(ring(40), ring(39))[0]), 1560)
        self.same(self.soon(same_words, (ring(40)[0], tuple(range(40))), (ring(39)[0], tuple(range(39)))), None)


class WrongMachines(Checked):

    def test_of_one(self):
        for told in NO_MACHINES:
            self.refused(InvalidMachine, told, spells, told, ())
            self.refused(InvalidMachine, told, least_machine, told)
            self.refused(InvalidMachine, told, words, told, 1)

    def test_of_two(self):
        for call in OF_TWO:
            for told in NO_MACHINES:
                self.refused(InvalidMachine, told, call, told, RISING)
                self.refused(InvalidMachine, told, call, RISING, told)
                self.refused(InvalidMachine, told, call, told, ())

    def test_by_name(self):
        self.refused(InvalidMachine, None, least_machine, machine=None)
        for call in OF_TWO:
            self.refused(InvalidMachine, None, call, other=(), one=None)

    def test_several_wrong_arguments(self):
        self.refused(InvalidMachine, None, spells, None, (None,))
        self.refused(InvalidMachine, (), spells, word=[], machine=())
        self.refused(InvalidMachine, None, words, None, -1)
        self.refused(InvalidMachine, (), words, n=True, machine=())

    def test_wrong_lists_stay_as_they_are(self):
        told = [[[[1, 3], 0]], [0]]
        for call in OF_TWO:
            self.refused(InvalidMachine, told, call, told, told)
        self.refused(InvalidMachine, told, least_machine, told)
        self.refused(InvalidMachine, told, spells, told, told)
        self.refused(InvalidMachine, told, words, told, told)
        self.same(told, [[[[1, 3], 0]], [0]])


if __name__ == "__main__":
    unittest.main()
