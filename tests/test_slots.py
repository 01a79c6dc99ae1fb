"""[7], [8], "words" of [16], and slots.py."""

import unittest
from itertools import product

import plain
from checking import NO_FORMS, NO_LETTERS, NO_LISTS, NO_ORDERS, NO_WORDS, Checked

from bannedorders.errors import InvalidForm, InvalidLetter, InvalidList, InvalidOrder, InvalidWord
from bannedorders.slots import (
    filling, is_form, is_open, led, letters, order_of, put, slots, widest, word_of)

LISTS = (
    (), ((1,),), ((1, 2),), ((2, 1),), ((1, 2), (2, 1)), ((2, 3, 1),), ((2, 3, 1), (2, 3, 1), (1, 3, 4, 2)),
    ((1, 2, 3), (3, 2, 1)), ((2, 4, 1, 3), (3, 1, 4, 2)), ((4, 1, 3, 2), (1, 2, 3), (2, 1)), ((1, 3, 2, 4), (3, 2, 1)),
    ((2, 5, 1, 4, 3), (1, 2, 3, 4), (3, 2, 1)), ((3, 1, 2), (1,)),
)
FIVES = (
    (2, 5, 1, 3, 4), (3, 5, 1, 4, 2), (2, 4, 1, 3, 5), (5, 1, 2, 4, 3), (1, 2, 3, 4, 5), (4, 2, 5, 1, 3))
# Five slots and ten numbers: none of the two first lists is shown by the numbers alone.
LARGE = (0, 10, 9, 0, 8, 7, 0, 6, 5, 0, 4, 3, 0, 2, 1)
LARGER = (9, 0, 6, 10, 0, 3, 7, 8, 0, 1, 4, 0, 5, 2, 0)


def forms_to(most):
    """All forms with up to so many numbers and slots together."""
    return [form for m in range(most + 1) for k in range(most + 1 - m) for form in plain.forms_of(m, k)]


class Forms(Checked):

    def test_forms(self):
        for form in forms_to(6) + [(0,), LARGE, LARGER, tuple(range(1, 41))]:
            self.same(is_form(form), True)

    def test_every_little_tuple(self):
        right = set(forms_to(7))
        for n in range(6):
            for told in product((-1, 0, 1, 2, 3, 4), repeat=n):
                self.same(is_form(told), told in right)

    def test_what_is_none(self):
        for told in NO_FORMS:
            self.same(is_form(told), False)
        self.same([is_form((0, 10 ** 5000)), is_form((0, 1) * 300)], [False, False])

    def test_slots(self):
        for form in forms_to(6):
            self.same(slots(form), form.count(0))
        self.same([slots((0,)), slots((1,)), slots((2, 1)), slots(LARGE)], [1, 0, 0, 5])

    def test_letters(self):
        for form in forms_to(6):
            self.same(letters(form), plain.letters(form))
        self.same(letters((0,)), [(1, 0), (1, 1), (1, 2), (1, 3)])
        self.same([letters((1,)), letters((2, 1))], [[], []])

    def test_returned_lists_are_new(self):
        for form in ((0,), (1,), (0, 1, 0)):
            first = letters(form)
            wanted = list(first)
            first.append("more")
            self.same(letters(form), wanted)

    def test_wrong_forms(self):
        for told in NO_FORMS:
            for call in (slots, letters):
                self.refused(InvalidForm, told, call, told)
            self.refused(InvalidForm, told, put, told, (1, 0))
        self.refused(InvalidForm, None, slots, form=None)
        self.refused(InvalidForm, None, letters, form=None)


class Put(Checked):

    def test_by_hand(self):
        self.same([put((0,), (1, way)) for way in range(4)], [(0, 1, 0), (1, 0), (0, 1), (1,)])
        self.same(put((0, 2, 0, 1, 0), (2, 0)), (0, 2, 0, 3, 0, 1, 0))
        self.same(put((0, 2, 0, 1, 0), (3, 3)), (0, 2, 0, 1, 3))

    def test_as_the_words_say(self):
        for form in forms_to(5):
            for letter in plain.letters(form):
                found = put(form, letter)
                self.same(found, plain.put(form, letter))
                self.same(is_form(found), True)

    def test_wrong_letters(self):
        for form in ((0,), (0, 1, 0), (2, 0, 1), LARGE):
            for told in NO_LETTERS + ((form.count(0) + 1, 0), (10 ** 30, 3)):
                self.refused(InvalidLetter, told, put, form, told)
        for told in NO_LETTERS + ((1, 0), (1, 3)):
            self.refused(InvalidLetter, told, put, (1,), told)
        self.refused(InvalidLetter, (2, 0), put, letter=(2, 0), form=(0,))

    def test_several_wrong_arguments(self):
        self.refused(InvalidForm, (), put, (), None)
        told = [0]
        self.refused(InvalidForm, told, put, letter=told, form=told)
        self.same(told, [0])


class Words(Checked):

    def test_by_hand(self):
        self.same(led(((1, 0), (2, 1), (1, 3))), (3, 1, 2, 0))
        self.same(word_of((2, 1, 3)), ((1, 0), (1, 3), (1, 3)))
        self.same(order_of(((1, 2), (1, 1), (1, 3))), (2, 3, 1))

    def test_the_edges(self):
        self.same(led(()), (0,))
        self.same(led(((1, 3),)), (1,))
        self.same([word_of((1,)), order_of(((1, 3),))], [((1, 3),), (1,)])

    def test_forms_on_the_way(self):
        for word, forms in plain.whole_words(5).items():
            for k in range(6):
                self.same(led(word[:k]), forms[k])

    def test_each_order_has_just_one_whole_word(self):
        for n in range(1, 7):
            for order, ways in plain.ways_to(n).items():
                self.assertEqual(len(ways), 1)
                word, forms = ways[0]
                self.same(word_of(order), word)
                self.same(order_of(word), order)
                self.same(widest(order), max(form.count(0) for form in forms))

    def test_long_orders(self):
        rising = tuple(range(1, 13))
        order = (7, 2, 12, 5, 9, 1, 11, 4, 8, 3, 10, 6)
        for told in (rising, rising[::-1], order, order[::-1]):
            word = word_of(told)
            self.assertEqual(len(word), 12)
            form = (0,)
            for letter in word:
                form = plain.put(form, letter)
            self.same(form, told)
            self.same([order_of(word), led(word)], [told, told])
        self.same([word_of(rising), widest(rising)], [((1, 1),) * 11 + ((1, 3),), 1])
        self.same([widest((7, 1, 8, 2, 9, 3, 10, 4, 11, 5, 12, 6)), widest((1, 7, 2, 8, 3, 9, 4, 10, 5, 11, 6, 12))],
                  [6, 6])

    def test_widest_by_hand(self):
        self.same([widest((1,)), widest((2, 1, 3)), widest((3, 1, 2)), widest((3, 1, 4, 2, 5))], [1, 2, 2, 3])

    def test_wrong_words(self):
        for told in NO_WORDS + (
                ((2, 0),), ((1, 1), (2, 0)), ((1, 3), (1, 3)), ((1, 0), (3, 3)), ((1, 0), (1, 3), (2, 3))):
            self.refused(InvalidWord, told, led, told)
            self.refused(InvalidWord, told, order_of, told)
        self.refused(InvalidWord, None, led, word=None)

    def test_words_that_are_not_whole(self):
        for told in ((), ((1, 0),), ((1, 1),), ((1, 0), (1, 3)), ((1, 2), (1, 2), (1, 0))):
            self.refused(InvalidWord, told, order_of, told)
            self.refused(InvalidWord, told, order_of, word=told)

    def test_wrong_orders(self):
        for told in NO_ORDERS + ((),):
            self.refused(InvalidOrder, told, word_of, told)
            self.refused(InvalidOrder, told, widest, told)
        self.refused(InvalidOrder, (), word_of, order=())
        self.refused(InvalidOrder, (), widest, order=())


class Open(Checked):

    def test_by_hand(self):
        self.same([is_open(((2, 3, 1),), (0, 1, 0)), is_open(((2, 3, 1),), (1, 0, 2, 0))], [True, True])
        self.same([is_open(((2, 3, 1),), (2, 0, 1)), is_open(((1, 2),), (1, 0)), is_open(((2, 1),), (0, 1))],
                  [False, False, False])

    def test_the_edges(self):
        self.same([is_open((), (0,)), is_open(((1,),), (0,)), is_open(((1,),), (1,))], [True, False, False])
        self.same([is_open(((1, 2),), (2, 1)), is_open(((1, 2),), (1, 2)), is_open((), LARGE)], [True, False, True])

    def test_as_the_words_say(self):
        """If a form is open, an order is let that has one number for each of its slots."""
        forms = forms_to(5)
        for forbidden in LISTS:
            wanted = plain.open_forms(forbidden, 5)
            for form in forms:
                self.same(is_open(forbidden, form), form in wanted)

    def test_longer_forms(self):
        forbidden = ((2, 5, 1, 4, 3), (1, 2, 3, 4), (3, 2, 1))
        wanted = plain.open_forms(forbidden, 6)
        for form in plain.forms_of(3, 3) + plain.forms_of(4, 2)[::5] + plain.forms_of(3, 4):
            if len(form) <= 6:
                self.same(is_open(forbidden, form), form in wanted)
            self.same(filling(forbidden, form), plain.filling(forbidden, form))


class Filling(Checked):

    def test_by_hand(self):
        self.same(filling(((2, 3, 1),), (0, 1, 0)), (2, 1, 3))
        self.same(filling(((2, 1, 3),), (0, 1, 0)), (3, 1, 2))
        self.same(filling(((1, 2, 3), (2, 1, 3)), (0, 2, 0, 1, 0)), None)
        self.same(filling((), (0, 2, 0, 1, 0)), (3, 2, 4, 1, 5))

    def test_the_edges(self):
        self.same([filling((), (0,)), filling(((1,),), (0,)), filling(((1,),), (1,))], [(1,), None, None])
        self.same([filling(((1, 2),), (2, 1)), filling(((1, 2),), (1, 2))], [(2, 1), None])

    def test_as_the_words_say(self):
        forms = forms_to(5)
        for forbidden in LISTS:
            for form in forms:
                self.same(filling(forbidden, form), plain.filling(forbidden, form))

    def test_the_largest(self):
        self.same(self.soon(filling, (), LARGE), (11, 10, 9, 12, 8, 7, 13, 6, 5, 14, 4, 3, 15, 2, 1))
        rising, falling = (1, 2, 3, 4, 5), (5, 4, 3, 2, 1)
        for forbidden in (FIVES, FIVES[:2], (rising,), (falling,), (rising, falling)):
            for form in (LARGE, LARGER):
                found = self.soon(filling, forbidden, form)
                self.same(found, plain.filling(forbidden, form, plain.lets_long))
                self.same(self.soon(is_open, forbidden, form), found is not None)


class WrongForLists(Checked):

    def test_wrong_forms(self):
        for call in (is_open, filling):
            for told in NO_FORMS:
                self.refused(InvalidForm, told, call, ((2, 1),), told)
                self.refused(InvalidForm, told, call, form=told, forbidden=())

    def test_wrong_lists(self):
        for call in (is_open, filling):
            for told in NO_LISTS:
                self.refused(InvalidList, told, call, told, (0,))
                self.refused(InvalidList, told, call, form=(1,), forbidden=told)

    def test_several_wrong_arguments(self):
        """The section lists the form ahead of the list."""
        told = [(1,)]
        for call in (is_open, filling):
            self.refused(InvalidForm, (), call, None, ())
            self.refused(InvalidForm, (0, 0), call, told, (0, 0))
            self.refused(InvalidForm, told, call, told, told)
        self.same(told, [(1,)])


if __name__ == "__main__":
    unittest.main()
