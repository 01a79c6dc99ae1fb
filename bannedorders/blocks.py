"""Sums and skew sums, blocks and simple orders, orders put together, and their trees."""

from bannedorders.errors import InvalidOrder, InvalidPair
from bannedorders.patterns import check_order, is_order, is_pattern, mirrored, pattern_of


def summed(one, other):
    """Return the sum of two orders."""
    check_order(one)
    check_order(other)
    return one + tuple([number + len(one) for number in other])


def skew_summed(one, other):
    """Return the skew sum of two orders."""
    check_order(one)
    check_order(other)
    return tuple([number + len(other) for number in one]) + other


def parts(order):
    """Return the tuple of the orders in no parts, none (), whose sum an order is."""
    check_order(order)
    found = []
    begin = 0
    for end in range(1, len(order) + 1):
        # The numbers ahead of begin are those up to begin, so these are the next ones.
        if max(order[begin:end]) == end:
            found.append(pattern_of(order[begin:end]))
            begin = end
    return tuple(found)


def skew_parts(order):
    """Return the tuple of the orders in no skew parts, none (), whose skew sum an order is."""
    # To mirror makes sums of skew sums, and the other way round.
    return tuple([mirrored(part) for part in parts(mirrored(order))])


def is_stretch(numbers):
    """Return True if unlike integers, one or more, are a stretch of integers, otherwise False."""
    return max(numbers) - min(numbers) == len(numbers) - 1


def blocks(order):
    """Return the ascending list of the blocks of an order, of one thing and the whole too."""
    check_order(order)
    size = len(order)
    stretches = [(begin, end) for begin in range(size) for end in range(begin + 1, size + 1)]
    return [(begin, end) for begin, end in stretches if is_stretch(order[begin:end])]


def is_simple(order):
    """Return True if an order is simple, otherwise False."""
    check_order(order)
    # One block for each thing and one for the whole are always there.
    return len(order) >= 4 and len(blocks(order)) == len(order) + 1


def spread(order, inner):
    """Return the order put together of an order and of a tuple of as many."""
    numbers = []
    for mark, part in zip(order, inner):
        less = sum([len(other) for place, other in zip(order, inner) if place < mark])
        numbers.extend([number + less for number in part])
    return tuple(numbers)


def put_together(order, orders):
    """Return the order put together of an order and a tuple of as many, none ()."""
    check_order(order)
    if not isinstance(orders, tuple):
        raise InvalidOrder(orders)
    for part in orders:
        if not is_pattern(part):
            raise InvalidOrder(part)
    if len(order) != len(orders):
        raise InvalidPair((len(order), len(orders)))
    return spread(order, orders)


def widest_blocks(order):
    """Return the blocks, from the left, that lie in none but the whole, of an order in no parts nor skew parts."""
    size = len(order)
    ends = {}
    for begin, end in blocks(order):
        # They ascend, so of those with one begin the widest is kept.
        if (begin, end) != (0, size):
            ends[begin] = end
    # In no parts nor skew parts, the widest ones share no place: each begins where the last one ends.
    found = []
    reached = 0
    while reached < size:
        found.append((reached, ends[reached]))
        reached = ends[reached]
    return found


def tree(order):
    """Return the tree of an order of one or more things."""
    if not is_pattern(order):
        raise InvalidOrder(order)
    if len(order) == 1:
        return ("one",)
    summands = parts(order)
    if len(summands) > 1:
        return ("sum", tuple([tree(part) for part in summands]))
    summands = skew_parts(order)
    if len(summands) > 1:
        return ("skew", tuple([tree(part) for part in summands]))
    widest = widest_blocks(order)
    simple = pattern_of(tuple([order[begin] for begin, _ in widest]))
    return ("simple", simple, tuple([tree(pattern_of(order[begin:end])) for begin, end in widest]))


def is_sum_node(told):
    """Return True if a tuple is like the tree of a sum or a skew sum, the trees in it aside, otherwise False."""
    if len(told) != 2 or told[0] not in ("sum", "skew"):
        return False
    kind, below = told
    if not isinstance(below, tuple) or len(below) < 2:
        return False
    # What is summed is in no parts itself.
    return not any(isinstance(node, tuple) and node[:1] == (kind,) for node in below)


def is_simple_node(told):
    """Return True if a tuple is like the tree of an order of blocks, the trees in it aside, otherwise False."""
    if len(told) != 3 or told[0] != "simple":
        return False
    _, order, below = told
    if not is_order(order) or not is_simple(order):
        return False
    return isinstance(below, tuple) and len(below) == len(order)


def is_tree(told):
    """Return True if something is the tree of an order, otherwise False."""
    # By a list of what is left, not by recursion: what is no tree may be of any depth.
    left = [told]
    while left:
        node = left.pop()
        if not isinstance(node, tuple):
            return False
        if node != ("one",):
            if not is_sum_node(node) and not is_simple_node(node):
                return False
            left.extend(node[-1])
    return True


def order_with(node):
    """Return the order with a tree."""
    if node[0] == "one":
        return (1,)
    inner = tuple([order_with(below) for below in node[-1]])
    rising = tuple(range(1, len(inner) + 1))
    if node[0] == "sum":
        return spread(rising, inner)
    if node[0] == "skew":
        return spread(rising[::-1], inner)
    return spread(node[1], inner)


def from_tree(tree):
    """Return the order with a tree."""
    if not is_tree(tree):
        raise InvalidPair(tree)
    return order_with(tree)
