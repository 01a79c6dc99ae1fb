"""Lists of patterns: the orders that they let, least lists, and what becomes of lists."""

from bannedorders.blocks import parts, skew_parts
from bannedorders.errors import InvalidList
from bannedorders.patterns import check_number, check_order, goes_on, inverse, is_pattern, mirrored, turned


def is_list(told):
    """Return True if something is a tuple of patterns, otherwise False."""
    return isinstance(told, tuple) and all(is_pattern(pattern) for pattern in told)


def check_list(forbidden):
    """Raise InvalidList for what is no list."""
    if not is_list(forbidden):
        raise InvalidList(forbidden)


def shows_none(order, patterns):
    """Return True if an order shows none of some patterns, otherwise False."""
    return not any(goes_on(order, pattern, ()) for pattern in patterns)


def size_first(order):
    """Return the key that sorts orders by length and then as tuples."""
    return (len(order), order)


def longest(forbidden):
    """Return how many things the longest pattern of a list has, 0 if there is none."""
    return max([len(pattern) for pattern in forbidden], default=0)


def lets(forbidden, order):
    """Return True if an order shows none of a list, otherwise False."""
    check_list(forbidden)
    check_order(order)
    return shows_none(order, forbidden)


def least(forbidden):
    """Return the least list with the lot of a list."""
    check_list(forbidden)
    kept = []
    for pattern in sorted(forbidden, key=size_first):
        # What a pattern shows stands ahead of it, itself too where it stands twice.
        if shows_none(pattern, kept):
            kept.append(pattern)
    return tuple(kept)


def shows_each(one, other):
    """Return True if each pattern of the other list shows one of the one list, otherwise False."""
    return not any(shows_none(pattern, one) for pattern in other)


def lies_within(one, other):
    """Return True if all orders that the one lets are let by the other one, otherwise False."""
    check_list(one)
    check_list(other)
    # A pattern of the other list that shows none of the one is itself an order that only the one lets.
    return shows_each(one, other)


def same(one, other):
    """Return True if both lists let the same orders, otherwise False."""
    check_list(one)
    check_list(other)
    return shows_each(one, other) and shows_each(other, one)


def parting(one, other):
    """Return None, or the first order, by length and then as tuples, that just one of two lists lets."""
    check_list(one)
    check_list(other)
    # An order that only one lets shows a pattern of the other that only that one lets: the first one is a pattern.
    apart = [pattern for pattern in one if shows_none(pattern, other)]
    apart.extend([pattern for pattern in other if shows_none(pattern, one)])
    return min(apart, key=size_first, default=None)


def met(one, other):
    """Return the least list of the orders that both lists let."""
    check_list(one)
    check_list(other)
    return least(one + other)


def grown(orders, n):
    """Return the orders of n things that are left as one of some orders if their greatest number is taken away."""
    return [order[:at] + (n,) + order[at:] for order in orders for at in range(n)]


def with_one_less(order):
    """Return the orders that an order shows without one of its things."""
    return [tuple([mark - 1 if mark > gone else mark for mark in order if mark != gone]) for gone in order]


def next_let(forbidden, lesser, n):
    """Return the orders of n things that a list lets, from all that it lets of one thing less."""
    known = {order: True for order in lesser}
    found = []
    for order in grown(lesser, n):
        # A pattern that is not the whole order is shown without one of its things, too.
        if order not in forbidden and all(part in known for part in with_one_less(order)):
            found.append(order)
    return found


def joined(one, other):
    """Return the least list of the orders that at least one of two lists lets."""
    check_list(one)
    check_list(other)
    found = []
    ones, others, lesser = [()], [()], {(): True}
    # What neither lets, though one lets whatever it shows, is made up of one pattern of each.
    for n in range(1, longest(one) + longest(other) + 1):
        ones = next_let(one, ones, n)
        others = next_let(other, others, n)
        known = {order: True for order in ones + others}
        for order in grown(list(lesser), n):
            if order not in known and all(part in lesser for part in with_one_less(order)):
                found.append(order)
        lesser = known
    return tuple(sorted(found, key=size_first))


def let_of(forbidden, n):
    """Return the ascending list of the orders of n things that a list lets."""
    check_list(forbidden)
    check_number(n)
    found = [()]
    for size in range(1, n + 1):
        found = next_let(forbidden, found, size)
    return sorted(found)


def is_finite(forbidden):
    """Return True if a list lets only finitely many orders, otherwise False."""
    check_list(forbidden)
    # Each long order has a long rising or falling part, so one pattern of both sorts stops them all.
    rising = any(pattern == tuple(sorted(pattern)) for pattern in forbidden)
    falling = any(pattern == tuple(sorted(pattern, reverse=True)) for pattern in forbidden)
    return rising and falling


def turned_list(forbidden):
    """Return the least list of the orders turned about that a list lets."""
    check_list(forbidden)
    return least(tuple([turned(pattern) for pattern in forbidden]))


def mirrored_list(forbidden):
    """Return the least list of the mirrored orders that a list lets."""
    check_list(forbidden)
    return least(tuple([mirrored(pattern) for pattern in forbidden]))


def inverse_list(forbidden):
    """Return the least list of the inverse orders that a list lets."""
    check_list(forbidden)
    return least(tuple([inverse(pattern) for pattern in forbidden]))


def is_summed(forbidden):
    """Return True if each sum of two orders that a list lets is let, otherwise False."""
    # Of a least list the parts of a pattern are let, but not their sum; and one in no parts lies in one summand.
    return all(len(parts(pattern)) == 1 for pattern in least(forbidden))


def is_skew_summed(forbidden):
    """Return True if each skew sum of two orders that a list lets is let, otherwise False."""
    return all(len(skew_parts(pattern)) == 1 for pattern in least(forbidden))
