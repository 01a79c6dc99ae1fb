"""Ranks: the orders that a list lets, one behind the other in the sequence of their words, if it has a machine."""

from bannedorders.errors import InvalidNumber, InvalidPair, InvalidTape, NotLet
from bannedorders.machines import check_has_machine, machine
from bannedorders.patterns import are_whole, check_number, check_order, is_whole
from bannedorders.slots import order_of, word_of


class Ranks:
    """The orders of n things that a list lets: how many there are, the i-th one, and the place of each."""

    def __init__(self, forbidden, n):
        rows, ends = machine(forbidden)
        self.rows = rows
        # For each number of letters, from 0 on, how many words of as many lead from each state to an end.
        self.ways = [[1 if state in ends else 0 for state in range(len(rows))]]
        for _ in range(n):
            ahead = self.ways[-1]
            self.ways.append([sum([ahead[to] for _, to in row]) for row in rows])
        self.n = n
        # () has no word, and stands alone.
        self.many = self.ways[n][0] if n > 0 else 1

    def order_at(self, i):
        """Return the i-th order."""
        if self.n == 0:
            return ()
        word, state, left = [], 0, i
        for ways in self.ways[:self.n][::-1]:
            for letter, to in self.rows[state]:
                if left < ways[to]:
                    word.append(letter)
                    state = to
                    break
                left -= ways[to]
        return order_of(tuple(word))

    def place(self, order):
        """Return the i of an order of n things, None if it is not let."""
        if self.n == 0:
            return 0
        i, state = 0, 0
        for letter, ways in zip(word_of(order), self.ways[:self.n][::-1]):
            steps = dict(self.rows[state])
            if letter not in steps:
                return None
            i += sum([ways[steps[other]] for other in steps if other < letter])
            state = steps[letter]
        return i if self.ways[0][state] == 1 else None


def nth(forbidden, n, i):
    """Return the i-th order of n things that a list lets."""
    check_has_machine(forbidden)
    check_number(n)
    ranks = Ranks(forbidden, n)
    if not is_whole(i) or not 0 <= i < ranks.many:
        raise InvalidNumber(i)
    return ranks.order_at(i)


def place_among(ranks, order):
    """Return the i of an order of as many things as some ranks are of."""
    i = ranks.place(order)
    if i is None:
        raise NotLet(order)
    return i


def place_of(forbidden, order):
    """Return the i of an order that a list lets."""
    check_has_machine(forbidden)
    check_order(order)
    return place_among(Ranks(forbidden, len(order)), order)


def next_order(forbidden, order):
    """Return the order behind one, of as many things, that a list lets, or None."""
    check_has_machine(forbidden)
    check_order(order)
    ranks = Ranks(forbidden, len(order))
    i = place_among(ranks, order) + 1
    return ranks.order_at(i) if i < ranks.many else None


def is_tape(told):
    """Return True if something is a tuple of the integers 0 and 1, otherwise False."""
    return are_whole(told) and all(bit in (0, 1) for bit in told)


def number_on(tape, many):
    """Return (number, read): the number below many that is drawn from a tape, and how many bits were read, or None."""
    bits = (many - 1).bit_length()
    read = 0
    while read + bits <= len(tape):
        number = 0
        for bit in tape[read:read + bits]:
            number = 2 * number + bit
        read += bits
        if number < many:
            return (number, read)
    return None


def drawn(forbidden, n, tape):
    """Return (order, read): the order of n things that is drawn from a tape, and how many bits were read, or None."""
    check_has_machine(forbidden)
    check_number(n)
    if not is_tape(tape):
        raise InvalidTape(tape)
    ranks = Ranks(forbidden, n)
    if ranks.many == 0:
        raise InvalidPair((n, 0))
    found = number_on(tape, ranks.many)
    if found is None:
        return None
    i, read = found
    return (ranks.order_at(i), read)
