"""Texts: how numbers, orders, lists, words, machines and sayings are shown."""

# The signs of the ways of letters: 0 leaves a slot on both sides, 1 one behind the number, 2 one ahead, 3 none.
WAY_SIGNS = "mlrf"
# The text of what has no parts: (), the list of none, the word of none, a state without letters.
NOTHING = "-"


def show_number(a):
    """Return the text of a number."""
    top, bottom = a
    return str(top) if bottom == 1 else f"{top}/{bottom}"


def show_order(order):
    """Return the text of an order."""
    return " ".join([str(number) for number in order]) or NOTHING


def show_list(forbidden):
    """Return the text of a list."""
    return ", ".join([show_order(pattern) for pattern in forbidden]) or NOTHING


def show_letter(letter):
    """Return the text of a letter."""
    slot, way = letter
    return f"{slot}{WAY_SIGNS[way]}"


def show_word(word):
    """Return the text of a word."""
    return " ".join([show_letter(letter) for letter in word]) or NOTHING


def show_row(state, row, is_end):
    """Return the line of a state of a machine: its index, its row, and whether a word may end there."""
    mark = " end" if is_end else ""
    steps = ", ".join([f"{show_letter(letter)} {to}" for letter, to in row]) or NOTHING
    return f"{state}{mark} : {steps}"


def show_machine(machine):
    """Return the text of a machine."""
    rows, ends = machine
    return "\n".join([show_row(state, row, state in ends) for state, row in enumerate(rows)])


def show_saying(saying):
    """Return the text of a saying."""
    word = saying[0]
    if word == "list":
        return f"(list [{show_list(saying[1])}])"
    if word == "sorted":
        return f"(sorted {saying[1]})"
    parts = " ".join([show_saying(part) for part in saying[1:]])
    return f"({word} {parts})"
