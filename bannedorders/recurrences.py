"""Rules of sequences of integers: the shortest one by which each term comes of those ahead.

A rule is a list of integers: from its length on each term is the first one times the term ahead, and so on. Whoever
asks for the shortest one knows that there is one of integers, of at most half as many as there are terms. Of the
counts of a list and of the sums of powers of roots there is: the counts of a machine with so many states follow a
rule of as many, and by Fatou's lemma and that of Gauss the shortest rule of such integers is of integers itself.
"""

from math import gcd


def inverse_of(number, modulus):
    """Return what a number, of no common divisor with a modulus, is to be multiplied with to make 1."""
    rest, other = modulus, number % modulus
    inverse, another = 0, 1
    while other > 0:
        times = rest // other
        rest, other = other, rest - times * other
        inverse, another = another, inverse - times * another
    return inverse % modulus


def due(terms, rule, at):
    """Return the term at a place, not below the length of a rule, that comes by the rule of those ahead."""
    return sum([number * term for number, term in zip(rule, terms[at - len(rule):at][::-1])])


def mended(rule, change, modulus):
    """Return the sum of two rules, the shorter one with noughts behind it, by a modulus."""
    wide = max(len(rule), len(change))
    both = zip(rule + [0] * (wide - len(rule)), change + [0] * (wide - len(change)))
    return [(number + other) % modulus for number, other in both]


def rule_modulo(terms, modulus):
    """Return the shortest rule of some terms by a modulus, None if it cannot be told by this one.

    As Berlekamp and Massey do it: where the rule fails, an elder rule mends it, by how much that one failed.
    """
    rule, elder, failed, inverse = [], [], -1, 1
    for at in range(len(terms)):
        fault = (terms[at] - due(terms, rule, at)) % modulus
        if fault != 0:
            # Else the fault might be none by a divisor of the modulus: the rule would not be sure to be the shortest.
            if gcd(fault, modulus) != 1:
                return None
            times = fault * inverse
            change = [0] * (at - failed - 1) + [times] + [-times * number for number in elder]
            before = rule
            rule = mended(rule, change, modulus)
            if len(rule) > len(before):
                elder, failed, inverse = before, at, inverse_of(fault, modulus)
    return rule


def follows(terms, rule):
    """Return True if some terms follow a rule, otherwise False."""
    return all(terms[at] == due(terms, rule, at) for at in range(len(rule), len(terms)))


def shortest_rule(terms):
    """Return the shortest rule of some terms."""
    bits = 128
    while True:
        # No two of Fermat's numbers have a common divisor, so at last there comes one that is large enough, and that
        # has none with what must be divided by.
        modulus = (1 << bits) + 1
        found = rule_modulo([term % modulus for term in terms], modulus)
        if found is not None:
            whole = [number if 2 * number < modulus else number - modulus for number in found]
            # What holds for the terms themselves can be no shorter: by the modulus it would hold, too.
            if follows(terms, whole):
                return whole
        bits *= 2


def power_sums(rule, many):
    """Return the list of the sums of the powers with 0, 1 and so on of the roots of a rule, so many sums.

    The roots are those of x to the power m less the rule's first number times x to the power m - 1 and so on.
    """
    sums = [len(rule)]
    for at in range(1, many):
        # Newton's identities: the roots need not be known.
        if at <= len(rule):
            sums.append(due(sums, rule[:at - 1], at) + at * rule[at - 1])
        else:
            sums.append(due(sums, rule, at))
    return sums
