"""What the document says, done as plainly as its words say it, to compare the program with."""

from functools import lru_cache
from itertools import combinations, permutations


def rank(numbers):
    rising = sorted(numbers)
    return tuple(rising.index(number) + 1 for number in numbers)


@lru_cache(None)
def orders_of(n):
    return tuple(permutations(range(1, n + 1)))


def orders_to(most):
    return [order for n in range(most + 1) for order in orders_of(n)]


@lru_cache(None)
def patterns_in(order):
    """All that an order shows."""
    return frozenset(rank(row) for k in range(1, len(order) + 1) for row in combinations(order, k))


def lets(forbidden, order):
    return not any(pattern in patterns_in(order) for pattern in forbidden)


def lets_long(forbidden, order):
    """Likewise, for orders that are too long to tell all that they show: patterns of just five things."""
    return not any(rank(row) in forbidden for row in combinations(order, 5))


def lot(forbidden, n):
    return [order for order in orders_of(n) if lets(forbidden, order)]


def lot_to(forbidden, most):
    return [order for n in range(most + 1) for order in lot(forbidden, n)]


def least(forbidden):
    own = set(forbidden)
    kept = [one for one in own if not any(other != one and other in patterns_in(one) for other in own)]
    return tuple(sorted(kept, key=lambda order: (len(order), order)))


def summed(one, other):
    return one + tuple(number + len(one) for number in other)


def skew_summed(one, other):
    return tuple(number + len(other) for number in one) + other


def put(form, letter):
    s, way = letter
    at = [place for place in range(len(form)) if form[place] == 0][s - 1]
    new = max(form) + 1
    stands = {0: (0, new, 0), 1: (new, 0), 2: (0, new), 3: (new,)}
    return form[:at] + stands[way] + form[at + 1:]


def letters(form):
    return [(s, way) for s in range(1, form.count(0) + 1) for way in (0, 1, 2, 3)]


@lru_cache(None)
def whole_words(n):
    """All whole words of n letters, each with the forms on its way, the first one too."""
    found = {(): ((0,),)}
    for _ in range(n):
        longer = {}
        for word, forms in found.items():
            for letter in letters(forms[-1]):
                longer[word + (letter,)] = forms + (put(forms[-1], letter),)
        # Each slot needs one letter more at the least.
        found = {word: forms for word, forms in longer.items() if len(word) + forms[-1].count(0) <= n}
    return found


@lru_cache(None)
def ways_to(n):
    """The orders of n things, each with its whole words and the forms on the way."""
    found = {order: [] for order in orders_of(n)}
    for word, forms in whole_words(n).items():
        found[forms[-1]].append((word, forms))
    return found


def forms_of(numbers, slots):
    """All forms with so many numbers and slots."""
    found = []
    for order in orders_of(numbers):
        for gaps in combinations(range(numbers + 1), slots):
            form = ()
            for at in range(numbers + 1):
                form += ((0,) if at in gaps else ()) + order[at:at + 1]
            found.append(form)
    return [form for form in found if form]


def open_forms(forbidden, most):
    """The forms that are on the way to orders of up to so many things that are let."""
    return {
        form for n in range(1, most + 1) for order in lot(forbidden, n) for _, forms in ways_to(n)[order]
        for form in forms}


def filling(forbidden, form, is_let=lets):
    places = [place for place in range(len(form)) if form[place] == 0]
    found = []
    for numbers in permutations(range(max(form) + 1, max(form) + 1 + len(places))):
        order = list(form)
        for place, number in zip(places, numbers):
            order[place] = number
        if is_let(forbidden, tuple(order)):
            found.append(tuple(order))
    return min(found, default=None)


def alternation(kind, n):
    order = [None] * (2 * n)
    for k in range(n):
        order[2 * k] = k + 1 if kind[0] == 1 else n - k
        order[2 * k + 1] = n + 1 + k if kind[1] == 1 else 2 * n - k
    return tuple(order)


def end(machine, word):
    """The state to which a word leads, None if there is none."""
    state = 0
    for letter in word:
        state = dict(machine[0][state]).get(letter) if state is not None else None
    return state


def words(machine, n):
    """The ascending list of the words of n letters that a machine spells, by all that it can take."""
    found = [((), 0)]
    for _ in range(n):
        found = [(word + (letter,), to) for word, state in found for letter, to in machine[0][state]]
    return sorted(word for word, state in found if state in machine[1])


def is_least(machine):
    """As [10] says it: all states reached, useful, unlike and numbered as they are met."""
    rows, ends = machine
    met = [0]
    for state in met:
        met += [to for to in dict.fromkeys(to for _, to in rows[state]) if to not in met]
    useful = set(ends)
    for _ in rows:
        useful |= {state for state, row in enumerate(rows) if any(to in useful for _, to in row)}
    pairs = list(combinations(range(len(rows)), 2))
    apart = {pair for pair in pairs if (pair[0] in ends) != (pair[1] in ends)}
    while True:
        more = set()
        for pair in pairs:
            one, other = dict(rows[pair[0]]), dict(rows[pair[1]])
            # Where all states are useful, a letter of just one of both leads on to a word.
            if set(one) != set(other) or any(tuple(sorted((one[k], other[k]))) in apart for k in one):
                more.add(pair)
        if more <= apart:
            break
        apart |= more
    return met == list(range(len(rows))) and useful | {0} == set(met) and len(apart) == len(pairs)
