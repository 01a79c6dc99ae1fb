"""Readers: what has a text, as texts.py shows it, and which line cannot stand in a text that is none."""

from bannedorders.errors import Unreadable
from bannedorders.lists import is_list
from bannedorders.machines import is_machine
from bannedorders.patterns import is_order
from bannedorders.sayings import is_saying
from bannedorders.texts import NOTHING, WAY_SIGNS, show_saying

DIGITS = "0123456789"


def lines_of(text):
    """Return the list of the lines of a text, one or more."""
    # What is no text at all has nothing that can stand in a first line.
    if not isinstance(text, str):
        raise Unreadable(1)
    return text.split("\n")


def read_line(text, reader):
    """Return what a reader makes of the one line of a text, which is None if the line is wrong."""
    lines = lines_of(text)
    found = reader(lines[0])
    if found is None:
        raise Unreadable(1)
    if len(lines) > 1:
        raise Unreadable(2)
    return found


def all_in(line, gap, reader):
    """Return the tuple of what a reader makes of the parts of a line between gaps, None if one part is wrong."""
    if line == NOTHING:
        return ()
    found = tuple([reader(part) for part in line.split(gap)])
    return None if None in found else found


def whole_in(part):
    """Return the integer from 0 on that has a text, None if none has it."""
    if not 1 <= len(part) <= 9 or not all(sign in DIGITS for sign in part):
        return None
    whole = int(part)
    # Needless noughts are not shown.
    return whole if str(whole) == part else None


def integer_in(part):
    """Return the integer, below 0 too, that has a text, None if none has it."""
    if not part.startswith("-"):
        return whole_in(part)
    behind = whole_in(part[1:])
    # The sign of -0 is needless.
    return None if behind is None or behind == 0 else -behind


def order_in(line):
    """Return the order that has a line, None if none has it."""
    found = all_in(line, " ", whole_in)
    return found if is_order(found) else None


def list_in(line):
    """Return the list that has a line, None if none has it."""
    found = all_in(line, ", ", order_in)
    return found if is_list(found) else None


def letter_in(part):
    """Return the letter that has a text, None if none has it."""
    slot = whole_in(part[:-1])
    if slot is None or slot == 0 or part[-1] not in WAY_SIGNS:
        return None
    return (slot, WAY_SIGNS.index(part[-1]))


def word_in(line):
    """Return the word, of any slots, that has a line, None if none has it."""
    return all_in(line, " ", letter_in)


def step_in(part):
    """Return the letter and the state that have a text, None if none have it."""
    sign, _, state = part.partition(" ")
    letter, to = letter_in(sign), whole_in(state)
    return None if letter is None or to is None else (letter, to)


def row_in(line, state):
    """Return (row, is_end) that the line of a state tells, None if it cannot stand there."""
    head, _, tail = line.partition(" : ")
    row = all_in(tail, ", ", step_in)
    if row is None or head not in (f"{state}", f"{state} end"):
        return None
    return (row, head.endswith("end"))


def part_of(told):
    """Return the part of a saying that stands in round brackets, by the words and parts, one or more, between them."""
    if told[0] != "list" or not all(isinstance(word, str) for word in told):
        return tuple(told)
    # In square brackets: whether they are there is not asked yet.
    inside = " ".join(told[1:])
    return ("list", list_in(inside[1:-1]))


def saying_in(line):
    """Return the saying that has a line, None if none has it."""
    held = [[]]
    # Between two brackets there is at least an empty word.
    for word in line.replace("(", "( ").replace(")", " )").split(" "):
        if word == "(":
            held.append([])
        elif word == ")" and len(held) > 1:
            part = part_of(held.pop())
            held[-1].append(part)
        else:
            held[-1].append(word)
    # What else may be wrong in the line shows in its text.
    found = held[0][0] if held[0] else None
    return found if is_saying(found) and show_saying(found) == line else None


def read_order(text):
    """Return the order that has a text."""
    return read_line(text, order_in)


def read_list(text):
    """Return the list that has a text."""
    return read_line(text, list_in)


def read_word(text):
    """Return the word, of any slots, that has a text."""
    return read_line(text, word_in)


def read_saying(text):
    """Return the saying that has a text."""
    return read_line(text, saying_in)


def read_machine(text):
    """Return the machine that has a text."""
    rows, ends = [], []
    for state, line in enumerate(lines_of(text)):
        found = row_in(line, state)
        if found is None:
            raise Unreadable(state + 1)
        row, is_end = found
        rows.append(row)
        if is_end:
            ends.append(state)
    told = (tuple(rows), tuple(ends))
    if not is_machine(told):
        raise Unreadable(0)
    return told
