"""Rates: how fast the counts of a list grow that has a machine, and which of two lists grows faster.

A shape is a tuple of integers, the coefficients of a polynomial, highest power first. Here its first one is 1, no
root stands twice, and the greatest absolute value of a root, the rate, is a root itself. So all its roots, and by
Gauss and Lucas those of what is derived of it, lie left of the rate or at it. That tells by signs alone where it is.
"""

from math import gcd

from bannedorders.counts import firsts_and_rule
from bannedorders.machines import check_has_machine
from bannedorders.recurrences import power_sums, shortest_rule


def shape_of(rule):
    """Return the shape of a rule."""
    return (1,) + tuple([-number for number in rule])


def without_repeats(rule):
    """Return the rule with the roots of a rule, each once."""
    # In the sums of powers each root has a part, once and for all: the shortest rule of the sums has just these roots.
    return shortest_rule(power_sums(rule, 2 * len(rule)))


def with_both(rule, other):
    """Return the rule with the roots of two rules, each once."""
    many = 2 * (len(rule) + len(other))
    both = zip(power_sums(rule, many), power_sums(other, many))
    return shortest_rule([one + another for one, another in both])


def seen_from(shape, top, bottom):
    """Return the coefficients, lowest power first, of a shape of which top by bottom becomes the point 0.

    They are told as multiples above 0 of the true ones, which have the same signs: for integers alone.
    """
    row, power = [], 1
    for number in shape:
        row.append(number * power)
        power *= bottom
    found = []
    while row:
        for at in range(1, len(row)):
            row[at] += top * row[at - 1]
        found.append(row.pop())
    return found


def changes(shape, top, bottom):
    """Return how often the coefficients of a shape, seen from top by bottom, change their signs, noughts aside."""
    signs = [number > 0 for number in seen_from(shape, top, bottom) if number != 0]
    return len([at for at in range(1, len(signs)) if signs[at - 1] != signs[at]])


def is_within(shape, top, bottom):
    """Return True if the rate of a shape is at most top by bottom, otherwise False."""
    # By Budan there is a change if a root is greater; else what is derived is nowhere below 0 from there on.
    return changes(shape, top, bottom) == 0


def whole_above(shape):
    """Return the least integer that is not less than the rate of a shape."""
    whole = 0
    while not is_within(shape, whole, 1):
        whole += 1
    return whole


def number_of(top, bottom):
    """Return the number top by bottom, bottom above 0, in lowest terms."""
    common = gcd(top, bottom)
    return (top // common, bottom // common)


def rate(forbidden):
    """Return (shape, low, high): the shape of a list, and two numbers that its rate is between."""
    _, rule = firsts_and_rule(forbidden)
    shape = shape_of(without_repeats(rule))
    whole = whole_above(shape)
    # As the first coefficient is 1, a rate that is a fraction is an integer.
    if seen_from(shape, whole, 1)[0] == 0:
        return (shape, (whole, 1), (whole, 1))
    parts = 1024
    low, high = (whole - 1) * parts, whole * parts
    while high - low > 1:
        middle = (low + high) // 2
        if is_within(shape, middle, parts):
            high = middle
        else:
            low = middle
    return (shape, number_of(low, parts), number_of(high, parts))


def apart(shape, other, both, whole):
    """Return 1, 0 or -1 as the rate of a shape is greater, the same or less than that of another one.

    Both rates are at most an integer, and above the one ahead of it; one more shape has the roots of both.
    """
    low, bottom = whole - 1, 1
    # One change says that just one root of both is greater than low by bottom: so both rates are this one.
    while changes(both, low, bottom) != 1:
        low, bottom = 2 * low, 2 * bottom
        within = is_within(shape, low + 1, bottom)
        if within != is_within(other, low + 1, bottom):
            return -1 if within else 1
        if not within:
            low += 1
    return 0


def faster(one, other):
    """Return 1, 0 or -1 as the rate of the one list is greater, the same or less than that of the other one."""
    check_has_machine(one)
    check_has_machine(other)
    rules = [without_repeats(firsts_and_rule(forbidden)[1]) for forbidden in (one, other)]
    shapes = [shape_of(rule) for rule in rules]
    wholes = [whole_above(shape) for shape in shapes]
    if wholes[0] != wholes[1]:
        return 1 if wholes[0] > wholes[1] else -1
    both = shape_of(with_both(rules[0], rules[1]))
    return apart(shapes[0], shapes[1], both, wholes[0])
