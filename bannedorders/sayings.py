"""Sayings: lists and sorters, and what is made of them; which orders they mean, and by which least list."""

from bannedorders.errors import InvalidSaying
from bannedorders.lists import (
    inverse_list, is_list, joined, least, let_of, lets, met, mirrored_list, turned_list)
from bannedorders.patterns import check_number, check_order, inverse, mirrored, orders, turned
from bannedorders.sorters import is_sorter, list_of, sorts

# How many sayings stand in one that is made of others, by its word.
PARTS = {"turned": 1, "mirrored": 1, "inverse": 1, "both": 2, "either": 2}


def is_node(told):
    """Return True if something is a saying but for the sayings that stand in it, otherwise False."""
    if not isinstance(told, tuple) or len(told) < 2 or not isinstance(told[0], str):
        return False
    if told[0] == "list":
        return len(told) == 2 and is_list(told[1])
    if told[0] == "sorted":
        return len(told) == 2 and is_sorter(told[1])
    return told[0] in PARTS and len(told) == PARTS[told[0]] + 1


def is_saying(told):
    """Return True if something is a saying, otherwise False."""
    # By a list of what is left, not by recursion: what is no saying may be of any depth.
    left = [told]
    while left:
        node = left.pop()
        if not is_node(node):
            return False
        if node[0] in PARTS:
            left.extend(node[1:])
    return True


def check_saying(saying):
    """Raise InvalidSaying for what is no saying."""
    if not is_saying(saying):
        raise InvalidSaying(saying)


def list_meant(saying):
    """Return the least list that a saying means."""
    word = saying[0]
    if word == "list":
        return least(saying[1])
    if word == "sorted":
        return list_of(saying[1])
    lists = [list_meant(part) for part in saying[1:]]
    if word == "both":
        return met(lists[0], lists[1])
    if word == "either":
        return joined(lists[0], lists[1])
    if word == "turned":
        return turned_list(lists[0])
    if word == "mirrored":
        return mirrored_list(lists[0])
    return inverse_list(lists[0])


def meaning(saying):
    """Return the least list that a saying means."""
    check_saying(saying)
    return list_meant(saying)


def changed(word, order):
    """Return an order turned about, mirrored or inverse, as the word of a saying says. To do so twice undoes it."""
    if word == "turned":
        return turned(order)
    if word == "mirrored":
        return mirrored(order)
    return inverse(order)


def orders_meant(saying, n):
    """Return the ascending list of the orders of n things that a saying means."""
    word = saying[0]
    if word == "list":
        return let_of(saying[1], n)
    if word == "sorted":
        return [order for order in orders(n) if sorts(saying[1], order)]
    lots = [orders_meant(part, n) for part in saying[1:]]
    if word == "both":
        known = {order: True for order in lots[1]}
        return [order for order in lots[0] if order in known]
    if word == "either":
        return sorted(set(lots[0] + lots[1]))
    return sorted([changed(word, order) for order in lots[0]])


def lot_of(saying, n):
    """Return the ascending list of the orders of n things that a saying means."""
    check_saying(saying)
    check_number(n)
    return orders_meant(saying, n)


def means(saying, order):
    """Return True if a saying means an order, otherwise False."""
    word = saying[0]
    if word == "list":
        return lets(saying[1], order)
    if word == "sorted":
        return sorts(saying[1], order)
    if word == "both":
        return means(saying[1], order) and means(saying[2], order)
    if word == "either":
        return means(saying[1], order) or means(saying[2], order)
    return means(saying[1], changed(word, order))


def is_meant(saying, order):
    """Return True if a saying means an order, otherwise False."""
    check_saying(saying)
    check_order(order)
    return means(saying, order)
