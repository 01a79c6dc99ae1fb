"""How many orders a list lets that has a machine: the counts, the rule that they follow, and their polynomial."""

from math import comb

from bannedorders.machines import check_has_machine, machine
from bannedorders.patterns import check_number
from bannedorders.recurrences import shortest_rule


def counted(told, n):
    """Return the list of the counts from 0 to n of the list with a machine."""
    rows, ends = told
    ways = [1] + [0] * (len(rows) - 1)
    # Of the order of no things there is no whole word.
    found = [1]
    for _ in range(n):
        longer = [0] * len(rows)
        for many, row in zip(ways, rows):
            for _, to in row:
                longer[to] += many
        ways = longer
        found.append(sum([ways[end] for end in ends]))
    return found


def counts(forbidden, n):
    """Return the list of how many orders of 0, 1 and so on to n things a list lets."""
    check_has_machine(forbidden)
    check_number(n)
    return counted(machine(forbidden), n)


def count(forbidden, n):
    """Return how many orders of n things a list lets."""
    return counts(forbidden, n)[n]


def firsts_and_rule(forbidden):
    """Return the list of the first counts of a list, and the list of the numbers of its rule."""
    told = machine(forbidden)
    # With the count of 0 things, which it does not spell, they follow a rule of one number more than it has states.
    terms = counted(told, 2 * len(told[0]) + 1)
    found = shortest_rule(terms)
    return terms[:len(found)], found


def rule(forbidden):
    """Return (firsts, rule): as many first counts of a list as its rule has numbers, and the rule."""
    firsts, found = firsts_and_rule(forbidden)
    return (tuple(firsts), tuple([(number, 1) for number in found]))


def degree(forbidden):
    """Return the degree of the polynomial whose values the counts are from some n on, -1 if they are 0, or None."""
    _, found = firsts_and_rule(forbidden)
    numbers = [1] + [-number for number in found]
    # Roots that are 0 matter for the first counts only.
    while numbers[-1] == 0:
        numbers.pop()
    power = len(numbers) - 1
    # The counts are those of a polynomial if all other roots are 1, as often as it has coefficients.
    ones = [comb(power, at) * (-1 if at & 1 else 1) for at in range(power + 1)]
    return power - 1 if numbers == ones else None
