"""Forms with slots, the letters that put numbers into them, and the words that lead to orders."""

from bannedorders.errors import InvalidForm, InvalidLetter, InvalidOrder, InvalidWord
from bannedorders.lists import check_list
from bannedorders.patterns import are_whole, is_order, is_pattern
from bannedorders.threats import START, Threats, keeps_left, keeps_right

FIRST_FORM = (0,)


def is_form(told):
    """Return True if something is a form, otherwise False."""
    if not are_whole(told) or len(told) == 0:
        return False
    side_by_side = [at for at in range(1, len(told)) if told[at - 1] == 0 and told[at] == 0]
    return side_by_side == [] and is_order(tuple([number for number in told if number != 0]))


def check_form(form):
    """Raise InvalidForm for what is no form."""
    if not is_form(form):
        raise InvalidForm(form)


def is_letter(told):
    """Return True if something is a letter, of any slot from 1 on, otherwise False."""
    return are_whole(told) and len(told) == 2 and told[0] >= 1 and 0 <= told[1] <= 3


def takes(form, letter):
    """Return True if something is a letter that a form takes, otherwise False."""
    return is_letter(letter) and letter[0] <= form.count(0)


def slot_places(form):
    """Return the list of the places of the slots of a form."""
    return [at for at, number in enumerate(form) if number == 0]


def slots(form):
    """Return how many slots a form has."""
    check_form(form)
    return form.count(0)


def form_behind(form, letter):
    """Return the form behind a letter that it takes."""
    slot, way = letter
    at = slot_places(form)[slot - 1]
    left = (0,) if keeps_left(way) else ()
    right = (0,) if keeps_right(way) else ()
    number = len(form) - form.count(0) + 1
    return form[:at] + left + (number,) + right + form[at + 1:]


def put(form, letter):
    """Return the form behind a letter."""
    check_form(form)
    if not takes(form, letter):
        raise InvalidLetter(letter)
    return form_behind(form, letter)


def letters_of(wide):
    """Return the ascending list of the letters that a form with so many slots takes."""
    return [(slot, way) for slot in range(1, wide + 1) for way in range(4)]


def letters(form):
    """Return the ascending list of the letters that a form takes."""
    check_form(form)
    return letters_of(form.count(0))


def end_of(word):
    """Return the form to which a word leads, None for what is no word."""
    if not isinstance(word, tuple):
        return None
    form = FIRST_FORM
    for letter in word:
        if not takes(form, letter):
            return None
        form = form_behind(form, letter)
    return form


def led(word):
    """Return the form to which a word leads."""
    form = end_of(word)
    if form is None:
        raise InvalidWord(word)
    return form


def stretches(marks):
    """Return how many stretches of True a list of True and False has."""
    return len([at for at, mark in enumerate(marks) if mark and (at == 0 or not marks[at - 1])])


def letter_at(form, number):
    """Return the letter that put a number into a form."""
    at = form.index(number)
    # Before that all numbers from this one on and the slots of the form were in slots.
    waits = [other == 0 or other >= number for other in form]
    way = 0
    if at == 0 or not waits[at - 1]:
        way += 1
    if at + 1 == len(form) or not waits[at + 1]:
        way += 2
    return (stretches(waits[:at + 1]), way)


def word_to(form):
    """Return the word that leads to a form."""
    return tuple([letter_at(form, number) for number in range(1, len(form) - form.count(0) + 1)])


def check_some(order):
    """Raise InvalidOrder for what is no order of one or more things."""
    if not is_pattern(order):
        raise InvalidOrder(order)


def word_of(order):
    """Return the whole word of an order that is not ()."""
    check_some(order)
    return word_to(order)


def order_of(word):
    """Return the order of a whole word."""
    form = end_of(word)
    if form is None or 0 in form:
        raise InvalidWord(word)
    return form


def widest(order):
    """Return the greatest number of slots of the forms on the way to an order, the first form too."""
    check_some(order)
    return max([stretches([mark > number for mark in order]) for number in range(len(order))])


def view_of(threats, form):
    """Return the view of a form, None if it shows a pattern."""
    view = START
    for letter in word_to(form):
        if view is not None:
            view = threats.moved(view, letter)
    return view


def is_open(forbidden, form):
    """Return True if a form is open for a list, otherwise False."""
    check_form(form)
    check_list(forbidden)
    threats = Threats(forbidden)
    return threats.is_open(view_of(threats, form))


def first_filling(threats, view):
    """Return the first order, as tuples compare, in which the slots of an open view can be filled, each by one."""
    wide, _ = view
    found = []
    for slot in range(1, wide + 1):
        # The least number comes into this slot, so what is found is the first one that has it there.
        rest = threats.moved(view, (slot, 3))
        if threats.is_open(rest):
            others = [number + 1 for number in first_filling(threats, rest)]
            found.append(tuple(others[:slot - 1] + [1] + others[slot - 1:]))
    return min(found, default=())


def filling(forbidden, form):
    """Return the first order that is let and comes of a form if each slot is filled by one number, or None."""
    check_form(form)
    check_list(forbidden)
    threats = Threats(forbidden)
    view = view_of(threats, form)
    if not threats.is_open(view):
        return None
    filled = list(form)
    for at, number in zip(slot_places(form), first_filling(threats, view)):
        filled[at] = len(form) - form.count(0) + number
    return tuple(filled)
