"""Sorters: what they make of orders, which ones they sort, and how often these must be led through."""

from bannedorders.errors import InvalidSorter
from bannedorders.lists import grown, size_first, with_one_less
from bannedorders.patterns import check_number, check_order

# The list of each sorter: it sorts just the orders that this lets.
LISTS = {
    "stack": ((2, 3, 1),),
    "popper": ((2, 3, 1), (3, 1, 2)),
    "queues": ((3, 2, 1),),
    "bubble": ((2, 3, 1), (3, 2, 1)),
}


def by_stack(order):
    """Return what the sorter "stack" makes of an order."""
    found, stack = [], []
    for number in order:
        while stack and stack[-1] < number:
            found.append(stack.pop())
        stack.append(number)
    return tuple(found + stack[::-1])


def by_popper(order):
    """Return what the sorter "popper" makes of an order."""
    found, stack = [], []
    for number in order:
        if stack and stack[-1] < number:
            found.extend(stack[::-1])
            stack = []
        stack.append(number)
    return tuple(found + stack[::-1])


def merged(first, second):
    """Return the numbers of two rows: always the lesser of both first ones leaves, at last the rest of one row."""
    found = []
    at, other = 0, 0
    while at < len(first) and other < len(second):
        if first[at] < second[other]:
            found.append(first[at])
            at += 1
        else:
            found.append(second[other])
            other += 1
    return found + first[at:] + second[other:]


def by_queues(order):
    """Return what the sorter "queues" makes of an order."""
    first, second = [], []
    for number in order:
        fits_first = not first or first[-1] < number
        fits_second = not second or second[-1] < number
        if fits_second and not fits_first:
            second.append(number)
        else:
            first.append(number)
    return tuple(merged(first, second))


def by_bubble(order):
    """Return what the sorter "bubble" makes of an order."""
    found = []
    for number in order:
        # The last one is held: a lesser one leaves ahead of it.
        if found and number < found[-1]:
            found.insert(len(found) - 1, number)
        else:
            found.append(number)
    return tuple(found)


WAYS = {"stack": by_stack, "popper": by_popper, "queues": by_queues, "bubble": by_bubble}


def is_sorter(told):
    """Return True if something is a sorter, otherwise False."""
    return isinstance(told, str) and told in LISTS


def check_sorter(sorter):
    """Raise InvalidSorter for what is no sorter."""
    if not is_sorter(sorter):
        raise InvalidSorter(sorter)


def put_through(sorter, order):
    """Return what a sorter makes of an order."""
    way = WAYS[sorter]
    return way(order)


def is_rising(order):
    """Return True if an order is (1, 2, .., n), otherwise False."""
    return order == tuple(range(1, len(order) + 1))


def made(sorter, order):
    """Return what a sorter makes of an order."""
    check_sorter(sorter)
    check_order(order)
    return put_through(sorter, order)


def sorts(sorter, order):
    """Return True if a sorter sorts an order, otherwise False."""
    return is_rising(made(sorter, order))


def list_of(sorter):
    """Return the list of a sorter."""
    check_sorter(sorter)
    return LISTS[sorter]


def passes(sorter, order):
    """Return how often an order must be led through a sorter until it is sorted, None if more than n times."""
    check_sorter(sorter)
    check_order(order)
    now = order
    for many in range(len(order) + 1):
        if is_rising(now):
            return many
        now = put_through(sorter, now)
    return None


def least_unsorted(sorter, n):
    """Return the ascending list of the orders of at most n things of which a sorter sorts all less ones, not these."""
    check_sorter(sorter)
    check_number(n)
    found = []
    clean = [()]
    for size in range(1, n + 1):
        # All of one thing less are sorted, and so is whatever these show.
        known = {order: True for order in clean}
        clean = []
        for order in grown(list(known), size):
            if all(part in known for part in with_one_less(order)):
                if is_rising(put_through(sorter, order)):
                    clean.append(order)
                else:
                    found.append(order)
    return sorted(found, key=size_first)
