"""Consoles: named lists, what texts order to do with them, and how that is taken back."""

from bannedorders.alternations import endless
from bannedorders.counts import count, rule
from bannedorders.errors import InvalidName, NothingToUndo, UnknownName, Unorderly, Unreadable
from bannedorders.lists import (
    check_list, inverse_list, is_finite, joined, lets, lies_within, met, mirrored_list, parting, same, turned_list)
from bannedorders.machines import machine
from bannedorders.ranks import nth, place_of
from bannedorders.rates import rate
from bannedorders.readers import integer_in, read_list, read_order, read_saying
from bannedorders.sayings import meaning
from bannedorders.texts import show_list, show_machine, show_number, show_order

LETTERS = "abcdefghijklmnopqrstuvwxyz"
DONE = "done"
NO = "no"
# What stands behind the words of texts: "name" for one that is kept or dropped, "held" for the name of a list that is
# there, or what readers.py reads. The orders of the first table keep a list under their name.
KEEPING = {
    "list": ("name", "patterns"),
    "say": ("name", "saying"),
    "both": ("name", "held", "held"),
    "either": ("name", "held", "held"),
    "turned": ("name", "held"),
    "mirrored": ("name", "held"),
    "inverse": ("name", "held"),
}
ASKING = {
    "show": ("held",),
    "lets": ("held", "order"),
    "same": ("held", "held"),
    "within": ("held", "held"),
    "finite": ("held",),
    "parting": ("held", "held"),
    "endless": ("held",),
    "count": ("held", "number"),
    "rule": ("held",),
    "rate": ("held",),
    "nth": ("held", "number", "number"),
    "place": ("held", "order"),
    "machine": ("held",),
}
OTHERS = {"drop": ("name",), "undo": (), "names": ()}


def is_name(told):
    """Return True if something is a name, otherwise False."""
    return isinstance(told, str) and 1 <= len(told) <= 8 and all(sign in LETTERS for sign in told)


def shape_of(word):
    """Return what stands behind the word of a text, None if no text begins with it."""
    return KEEPING.get(word, ASKING.get(word, OTHERS.get(word)))


def part_in(kind, part):
    """Return what a part of a text says, raise Unreadable if it cannot stand there."""
    if kind == "patterns":
        return read_list(part)
    if kind == "order":
        return read_order(part)
    if kind == "saying":
        return read_saying(part)
    if kind == "number":
        # Below 0 too: what is wrong with such an integer the functions say.
        found = integer_in(part)
    else:
        found = part if is_name(part) else None
    if found is None:
        raise Unreadable(1)
    return found


def read_text(text):
    """Return (word, told): the word of a text, and the list of what stands behind it."""
    if not isinstance(text, str):
        raise Unorderly(text)
    word, gap, rest = text.partition(" ")
    shape = shape_of(word)
    if shape is None:
        raise Unorderly(text)
    # The last part may have blanks itself.
    parts = rest.split(" ", len(shape) - 1) if gap else []
    if len(parts) != len(shape):
        raise Unorderly(text)
    try:
        return word, [part_in(kind, part) for kind, part in zip(shape, parts)]
    except Unreadable:
        raise Unorderly(text) from None


def list_made(word, told):
    """Return the list that an order keeps, by its word and what is told behind the name."""
    match word:
        case "list":
            return told[0]
        case "say":
            return meaning(told[0])
        case "both":
            return met(told[0], told[1])
        case "either":
            return joined(told[0], told[1])
        case "turned":
            return turned_list(told[0])
        case "mirrored":
            return mirrored_list(told[0])
        case _:
            return inverse_list(told[0])


def yes_or_no(mark):
    """Return the text of True or False."""
    return "yes" if mark else NO


def row_of(numbers):
    """Return the text of some integers, separated by a blank."""
    return " ".join([str(number) for number in numbers])


def row_or_no(numbers):
    """Return the text of some integers, separated by a blank, or of None."""
    return NO if numbers is None else row_of(numbers)


def rule_text(forbidden):
    """Return the text of the firsts and the rule of a list."""
    firsts, numbers = rule(forbidden)
    behind = " ".join([show_number(number) for number in numbers])
    return f"{row_of(firsts)} : {behind}"


def rate_text(forbidden):
    """Return the text of the two numbers that the rate of a list is between."""
    _, low, high = rate(forbidden)
    return f"{show_number(low)} {show_number(high)}"


def answer_to(word, told):
    """Return the answer to an order that changes nothing, by its word and what is told behind it."""
    match word:
        case "show":
            return show_list(told[0])
        case "lets":
            return yes_or_no(lets(told[0], told[1]))
        case "same":
            return yes_or_no(same(told[0], told[1]))
        case "within":
            return yes_or_no(lies_within(told[0], told[1]))
        case "finite":
            return yes_or_no(is_finite(told[0]))
        case "parting":
            return row_or_no(parting(told[0], told[1]))
        case "endless":
            return row_or_no(endless(told[0]))
        case "count":
            return str(count(told[0], told[1]))
        case "rule":
            return rule_text(told[0])
        case "rate":
            return rate_text(told[0])
        case "nth":
            return show_order(nth(told[0], told[1], told[2]))
        case "place":
            return str(place_of(told[0], told[1]))
        case _:
            return show_machine(machine(told[0]))


class Console:
    """Named lists, none at first, and the changes that may be taken back."""

    def __init__(self):
        self.lists = {}
        # For each change that is not taken back the name and the list that it had before, None if it had none.
        self.changed = []

    def hold(self, name, forbidden):
        """Let a name have a list, none if this is None."""
        if forbidden is None:
            del self.lists[name]
        else:
            self.lists[name] = forbidden

    def change(self, name, forbidden):
        """Let a name have a list, none if this is None, in a way that may be taken back."""
        self.changed.append((name, self.lists.get(name)))
        self.hold(name, forbidden)

    def keep(self, name, forbidden):
        """Keep a list under a name."""
        if not is_name(name):
            raise InvalidName(name)
        check_list(forbidden)
        self.change(name, forbidden)

    def drop(self, name):
        """Drop the list of a name."""
        self.check_held(name)
        self.change(name, None)

    def undo(self):
        """Take back the last change that is not taken back."""
        if not self.changed:
            raise NothingToUndo(0)
        name, before = self.changed.pop()
        self.hold(name, before)

    def check_held(self, name):
        """Raise UnknownName for what is not the name of a list."""
        if not isinstance(name, str) or name not in self.lists:
            raise UnknownName(name)

    def forbidden(self, name):
        """Return the list of a name."""
        self.check_held(name)
        return self.lists[name]

    def names(self):
        """Return the ascending list of the names."""
        return sorted(self.lists)

    def order(self, text):
        """Do what a text says, and return the answer."""
        word, parts = read_text(text)
        if word == "names":
            return "\n".join(self.names()) or "none"
        if word in ASKING or word in KEEPING:
            told = [self.forbidden(part) if kind == "held" else part for kind, part in zip(shape_of(word), parts)]
            if word in ASKING:
                return answer_to(word, told)
            self.keep(told[0], list_made(word, told[1:]))
        elif word == "drop":
            self.drop(parts[0])
        else:
            self.undo()
        return DONE
