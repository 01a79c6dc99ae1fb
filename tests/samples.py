"""Lists and sayings that several tests share."""

import random

import plain

# With machines.
LISTS = (
    ((1,),), ((1, 2),), ((2, 1),), ((1, 2), (2, 1)), ((2, 1), (1,), (2, 1)), ((2, 3, 1), (1, 3, 2)),
    ((1, 3, 2), (2, 3, 1), (1, 3, 2), (1, 2, 4, 3)), ((2, 3, 1), (3, 1, 2)), ((1, 2, 3), (3, 2, 1)),
    ((3, 2, 1), (1, 2, 3, 4)), ((2, 1, 3), (3, 1, 2)), ((2, 1, 3), (4, 1, 3, 2)), ((2, 1, 4, 3), (1, 2)),
    ((2, 3, 1), (1, 2, 5, 3, 4)), ((1, 2, 3), (1, 3, 2), (3, 1, 2), (3, 2, 1)), ((3, 1, 2), (1, 2, 3, 4)),
    ((2, 1, 3), (2, 3, 4, 1), (3, 4, 2, 1), (1, 5, 2, 3, 4)), ((1, 2, 4, 3), (2, 3, 4, 1), (2, 4, 3, 1), (4, 1, 3, 2)),
    ((2, 1, 3, 4), (4, 3, 1, 2), (1, 5, 3, 2, 4), (3, 2, 5, 4, 1)), tuple(plain.orders_of(3)), ((3, 2, 1), (2, 3, 1)),
)
# Of 100, 98 and 87 states, with up to six patterns of five things and forms of up to seven slots.
LARGE = (
    (((2, 1, 4, 3), (1, 5, 2, 3, 4), (2, 5, 3, 1, 4), (3, 5, 4, 1, 2), (4, 3, 2, 1, 5)), 100),
    (((4, 1, 3, 2), (1, 2, 3, 4, 5), (3, 4, 1, 2, 5)), 98),
    (((1, 2, 3, 4), (1, 4, 2, 3), (5, 3, 2, 1, 4)), 87),
)
# Without machines, each with the first kind that it does not stop.
WITHOUT = (
    ((), (-1, -1)), (((1, 2, 3),), (-1, -1)), (((2, 4, 1, 3),), (-1, 1)), (((1, 3, 2),), (-1, 1)),
    (((2, 3, 1),), (1, -1)), (((2, 1, 3), (2, 4, 1, 3)), (1, -1)), (((3, 2, 1),), (1, 1)),
)
WORDS = ("turned", "mirrored", "inverse")
ANY, NONE, ONE = ("list", ()), ("list", ((1,),)), ("list", ((2, 1),))
STACK = ("sorted", "stack")
LEAVES = tuple(("sorted", sorter) for sorter in ("stack", "popper", "queues", "bubble")) + (
    ANY, NONE, ONE, ("list", ((1, 2),)), ("list", ((2, 3, 1), (2, 1, 3), (2, 3, 1))), ("list", ((1, 3, 2), (3, 1, 2))),
    ("list", ((2, 3, 1), (1, 2))), ("list", ((3, 2, 1), (1, 2, 3))), ("list", ((2, 4, 1, 3), (3, 1, 4, 2))))
# Of patterns of three things, so that either may be said of them.
LITTLE = LEAVES[:12]
SAYINGS = LEAVES + tuple((word, leaf) for word in WORDS for leaf in LEAVES) + (
    ("both", STACK, ("turned", ("list", ((2, 1, 3),)))), ("either", ("list", ((1, 2),)), ONE), ("both", STACK, STACK),
    ("either", STACK, STACK), ("either", ("sorted", "queues"), ("mirrored", ("sorted", "queues"))),
    ("turned", ("turned", LEAVES[8])), ("inverse", ("inverse", STACK)), ("mirrored", ("turned", STACK)),
    ("inverse", ("both", ("turned", STACK), ("mirrored", ("sorted", "popper")))), ("either", ANY, STACK),
    ("either", NONE, STACK), ("both", ANY, STACK), ("both", NONE, ANY),
    ("both", ("either", ONE, ("list", ((1, 2),))), ("turned", ("either", STACK, ("inverse", STACK)))),
)


def deep(chance, depth):
    """A saying of just this depth, either only of leaves of little patterns."""
    if depth == 1:
        return chance.choice(LEAVES)
    if depth == 2 and chance.random() < 0.5:
        return ("either", chance.choice(LITTLE), chance.choice(LITTLE))
    word = chance.choice(WORDS + ("both",))
    if word == "both":
        parts = [deep(chance, depth - 1), deep(chance, chance.randint(1, depth - 1))]
        chance.shuffle(parts)
        return (word,) + tuple(parts)
    return (word, deep(chance, depth - 1))


DEEP = tuple(deep(random.Random(seed), 2 + seed % 5) for seed in range(60))
