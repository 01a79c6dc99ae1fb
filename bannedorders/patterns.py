"""Orders and patterns: which order shows which pattern, at which places."""

from itertools import combinations, permutations

from bannedorders.errors import InvalidNumber, InvalidOrder, InvalidPattern


def is_whole(told):
    """Return True if something is an integer, otherwise False."""
    # Python counts True and False as integers, the document does not.
    return isinstance(told, int) and not isinstance(told, bool)


def are_whole(told):
    """Return True if something is a tuple of integers, otherwise False."""
    return isinstance(told, tuple) and all(is_whole(number) for number in told)


def is_order(told):
    """Return True if something is an order, otherwise False."""
    return are_whole(told) and sorted(told) == list(range(1, len(told) + 1))


def is_pattern(told):
    """Return True if something is an order of one or more things, otherwise False."""
    return is_order(told) and len(told) > 0


def check_order(order):
    """Raise InvalidOrder for what is no order."""
    if not is_order(order):
        raise InvalidOrder(order)


def check_pattern(pattern):
    """Raise InvalidPattern for what is no pattern."""
    if not is_pattern(pattern):
        raise InvalidPattern(pattern)


def check_number(n):
    """Raise InvalidNumber for what is no integer, or below 0."""
    if not is_whole(n) or n < 0:
        raise InvalidNumber(n)


def pattern_of(numbers):
    """Return the order that compares as a tuple of unlike integers."""
    if not are_whole(numbers) or len(set(numbers)) < len(numbers):
        raise InvalidOrder(numbers)
    rising = sorted(numbers)
    return tuple([rising.index(number) + 1 for number in numbers])


def next_places(order, pattern, taken):
    """Return the places for the next thing of a pattern, those of the things ahead being taken."""
    mark = pattern[len(taken)]
    # What is taken compares right already, so only its nearest numbers on both sides matter.
    low = max([order[place] for other, place in zip(pattern, taken) if other < mark], default=0)
    high = min([order[place] for other, place in zip(pattern, taken) if other > mark], default=len(order) + 1)
    first = taken[-1] + 1 if taken else 0
    return [place for place in range(first, len(order)) if low < order[place] < high]


def goes_on(order, pattern, taken):
    """Return True if the places taken for the first things of a pattern lead to places for all."""
    if len(taken) == len(pattern):
        return True
    return any(goes_on(order, pattern, taken + (place,)) for place in next_places(order, pattern, taken))


def shows(order, pattern):
    """Return True if an order shows a pattern, otherwise False."""
    check_order(order)
    check_pattern(pattern)
    return goes_on(order, pattern, ())


def places(order, pattern):
    """Return the ascending list of all tuples of places at which an order shows a pattern."""
    check_order(order)
    check_pattern(pattern)
    found = [()]
    for _ in pattern:
        found = [taken + (place,) for taken in found for place in next_places(order, pattern, taken)]
    return found


def how_many(order, pattern):
    """Return at how many tuples of places an order shows a pattern."""
    return len(places(order, pattern))


def turned(order):
    """Return the order with its numbers in the other direction."""
    check_order(order)
    return order[::-1]


def mirrored(order):
    """Return the order with n + 1 less each number, n being its length."""
    check_order(order)
    return tuple([len(order) + 1 - number for number in order])


def inverse(order):
    """Return the order of the places, from 1 on, at which 1, 2 and so on stand."""
    check_order(order)
    return tuple([order.index(number) + 1 for number in range(1, len(order) + 1)])


def parts_of(order, n):
    """Return the ascending list of all orders of n things that an order shows."""
    check_order(order)
    check_number(n)
    if n > len(order):
        return []
    return sorted({pattern_of(numbers) for numbers in combinations(list(order), n)})


def orders(n):
    """Return the ascending list of all orders of n things."""
    check_number(n)
    return list(permutations(range(1, n + 1)))
