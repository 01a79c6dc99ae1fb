"""Alternations: the four endless kinds of orders that a list must stop to have a machine."""

from bannedorders.errors import InvalidKind
from bannedorders.lists import check_list, longest, shows_none
from bannedorders.patterns import are_whole, check_number
from bannedorders.threats import START, Threats

KINDS = ((-1, -1), (-1, 1), (1, -1), (1, 1))


def check_kind(kind):
    """Raise InvalidKind for what is no pair of 1 or -1."""
    if not are_whole(kind) or kind not in KINDS:
        raise InvalidKind(kind)


def woven(kind, n):
    """Return the alternation of n of a kind."""
    low = list(range(1, n + 1))[::kind[0]]
    high = list(range(n + 1, 2 * n + 1))[::kind[1]]
    return tuple([number for pair in zip(low, high) for number in pair])


def alternation(kind, n):
    """Return the alternation of n of a kind."""
    check_kind(kind)
    check_number(n)
    return woven(kind, n)


def stops(forbidden, kind):
    """Return True if a list stops a kind, otherwise False."""
    check_kind(kind)
    check_list(forbidden)
    return not shows_none(woven(kind, longest(forbidden)), forbidden)


def first_shown(forbidden, kind):
    """Return the first pattern of a list that the alternation of a kind of as many as it has things shows, or None."""
    for pattern in forbidden:
        if not shows_none(woven(kind, len(pattern)), (pattern,)):
            return pattern
    return None


def stopped(forbidden):
    """Return the tuple, for each of the four kinds, of the first pattern that stops it, None if there is none."""
    check_list(forbidden)
    return tuple([first_shown(forbidden, kind) for kind in KINDS])


def endless(forbidden):
    """Return None if a list stops all four kinds, or the first kind that it does not stop."""
    check_list(forbidden)
    for kind in KINDS:
        if first_shown(forbidden, kind) is None:
            return kind
    return None


def wider(threats, views):
    """Return the open views, each once, with one slot more to which letters lead that leave slots on both sides."""
    found = {}
    for view in views:
        for slot in range(1, view[0] + 1):
            other = threats.moved(view, (slot, 0))
            if threats.is_open(other):
                found[other] = True
    return list(found)


def most_slots(forbidden):
    """Return the greatest number of slots of an open form, 0 if none is open, None if a kind is not stopped."""
    if endless(forbidden) is not None:
        return None
    threats = Threats(forbidden)
    many = 0
    # An open form stays so without numbers, so one between each two slots is enough: each left slots on both sides.
    views = [START] if threats.is_open(START) else []
    while views:
        many += 1
        views = wider(threats, views)
    return many
