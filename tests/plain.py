"""What the document says, done as plainly as its words say it, to compare the program with."""

import re
from fractions import Fraction
from functools import lru_cache
from itertools import combinations, permutations


def rank(numbers):
    rising = sorted(numbers)
    return tuple(rising.index(number) + 1 for number in numbers)


@lru_cache(None)
def orders_of(n):
    return tuple(permutations(range(1, n + 1)))


def orders_to(most):
    return [order for n in range(most + 1) for order in orders_of(n)]


@lru_cache(None)
def patterns_in(order):
    """All that an order shows."""
    return frozenset(rank(row) for k in range(1, len(order) + 1) for row in combinations(order, k))


def lets(forbidden, order):
    return not any(pattern in patterns_in(order) for pattern in forbidden)


def lets_long(forbidden, order):
    """Likewise, for orders that are too long to tell all that they show: patterns of just five things."""
    return not any(rank(row) in forbidden for row in combinations(order, 5))


def lot(forbidden, n):
    return [order for order in orders_of(n) if lets(forbidden, order)]


def lot_to(forbidden, most):
    return [order for n in range(most + 1) for order in lot(forbidden, n)]


def least(forbidden):
    own = set(forbidden)
    kept = [one for one in own if not any(other != one and other in patterns_in(one) for other in own)]
    return tuple(sorted(kept, key=lambda order: (len(order), order)))


def summed(one, other):
    return one + tuple(number + len(one) for number in other)


def skew_summed(one, other):
    return tuple(number + len(other) for number in one) + other


def put(form, letter):
    s, way = letter
    at = [place for place in range(len(form)) if form[place] == 0][s - 1]
    new = max(form) + 1
    stands = {0: (0, new, 0), 1: (new, 0), 2: (0, new), 3: (new,)}
    return form[:at] + stands[way] + form[at + 1:]


def letters(form):
    return [(s, way) for s in range(1, form.count(0) + 1) for way in (0, 1, 2, 3)]


@lru_cache(None)
def whole_words(n):
    """All whole words of n letters, each with the forms on its way, the first one too."""
    found = {(): ((0,),)}
    for _ in range(n):
        longer = {}
        for word, forms in found.items():
            for letter in letters(forms[-1]):
                longer[word + (letter,)] = forms + (put(forms[-1], letter),)
        # Each slot needs one letter more at the least.
        found = {word: forms for word, forms in longer.items() if len(word) + forms[-1].count(0) <= n}
    return found


@lru_cache(None)
def ways_to(n):
    """The orders of n things, each with its whole words and the forms on the way."""
    found = {order: [] for order in orders_of(n)}
    for word, forms in whole_words(n).items():
        found[forms[-1]].append((word, forms))
    return found


def forms_of(numbers, slots):
    """All forms with so many numbers and slots."""
    found = []
    for order in orders_of(numbers):
        for gaps in combinations(range(numbers + 1), slots):
            form = ()
            for at in range(numbers + 1):
                form += ((0,) if at in gaps else ()) + order[at:at + 1]
            found.append(form)
    return [form for form in found if form]


def open_forms(forbidden, most):
    """The forms that are on the way to orders of up to so many things that are let."""
    return {
        form for n in range(1, most + 1) for order in lot(forbidden, n) for _, forms in ways_to(n)[order]
        for form in forms}


def filling(forbidden, form, is_let=lets):
    places = [place for place in range(len(form)) if form[place] == 0]
    found = []
    for numbers in permutations(range(max(form) + 1, max(form) + 1 + len(places))):
        order = list(form)
        for place, number in zip(places, numbers):
            order[place] = number
        if is_let(forbidden, tuple(order)):
            found.append(tuple(order))
    return min(found, default=None)


def alternation(kind, n):
    order = [None] * (2 * n)
    for k in range(n):
        order[2 * k] = k + 1 if kind[0] == 1 else n - k
        order[2 * k + 1] = n + 1 + k if kind[1] == 1 else 2 * n - k
    return tuple(order)


def end(machine, word):
    """The state to which a word leads, None if there is none."""
    state = 0
    for letter in word:
        state = dict(machine[0][state]).get(letter) if state is not None else None
    return state


def words(machine, n):
    """The ascending list of the words of n letters that a machine spells, by all that it can take."""
    found = [((), 0)]
    for _ in range(n):
        found = [(word + (letter,), to) for word, state in found for letter, to in machine[0][state]]
    return sorted(word for word, state in found if state in machine[1])


def is_least(machine):
    """As [10] says it: all states reached, useful, unlike and numbered as they are met."""
    rows, ends = machine
    met = [0]
    for state in met:
        met += [to for to in dict.fromkeys(to for _, to in rows[state]) if to not in met]
    useful = set(ends)
    for _ in rows:
        useful |= {state for state, row in enumerate(rows) if any(to in useful for _, to in row)}
    pairs = list(combinations(range(len(rows)), 2))
    apart = {pair for pair in pairs if (pair[0] in ends) != (pair[1] in ends)}
    while True:
        more = set()
        for pair in pairs:
            one, other = dict(rows[pair[0]]), dict(rows[pair[1]])
            # Where all states are useful, a letter of just one of both leads on to a word.
            if set(one) != set(other) or any(tuple(sorted((one[k], other[k]))) in apart for k in one):
                more.add(pair)
        if more <= apart:
            break
        apart |= more
    return met == list(range(len(rows))) and useful | {0} == set(met) and len(apart) == len(pairs)


def counts(forbidden, most):
    return [len(lot(forbidden, n)) for n in range(most + 1)]


def solved(rows, right):
    """The one solution of equations, None if there is none or more than one."""
    rows = [[Fraction(number) for number in row] + [Fraction(last)] for row, last in zip(rows, right)]
    wide = len(rows[0]) - 1
    for at in range(wide):
        found = next((k for k in range(at, len(rows)) if rows[k][at] != 0), None)
        if found is None:
            return None
        rows[at], rows[found] = rows[found], rows[at]
        rows[at] = [number / rows[at][at] for number in rows[at]]
        for k in range(len(rows)):
            if k != at and rows[k][at] != 0:
                rows[k] = [number - rows[k][at] * other for number, other in zip(rows[k], rows[at])]
    return None if any(row[wide] != 0 for row in rows[wide:]) else [row[wide] for row in rows[:wide]]


def rule(terms):
    """The shortest rule of a sequence of which far more terms are told than it has numbers."""
    for m in range(1, len(terms) // 2):
        found = solved([terms[n - m:n][::-1] for n in range(m, len(terms))], terms[m:])
        if found is not None:
            return found
    return None


def divided(one, other):
    """What is left if a polynomial is divided by another one, both highest power first, without leading noughts."""
    left = [Fraction(number) for number in one]
    while len(left) >= len(other):
        times = left[0] / other[0]
        left = [number - times * less for number, less in zip(left, list(other) + [0] * len(left))][1:]
    while left and left[0] == 0:
        left = left[1:]
    return left


def common(one, other):
    """The greatest common divisor of two polynomials, its first coefficient 1."""
    while other:
        one, other = other, divided(one, other)
    return [Fraction(number) / one[0] for number in one]


def derived(one):
    return [number * (len(one) - 1 - at) for at, number in enumerate(one[:-1])]


def times(one, other):
    found = [0] * (len(one) + len(other) - 1)
    for at, number in enumerate(one):
        for place, factor in enumerate(other):
            found[at + place] += number * factor
    return found


def value(one, x):
    found = Fraction(0)
    for number in one:
        found = found * x + number
    return found


def greatest_root(shape):
    """The greatest absolute value of a root, nearly, if none stands twice: as Durand and Kerner find all at once."""
    wide = 1 + max(abs(number) for number in shape)
    found = [wide * (0.4 + 0.9j) ** at / abs(0.4 + 0.9j) ** at for at in range(len(shape) - 1)]
    for _ in range(2000):
        last = list(found)
        for at, root in enumerate(found):
            top = 0
            for number in shape:
                top = top * root + number
            bottom = shape[0]
            for place, other in enumerate(found):
                bottom *= root - other if place != at else 1
            found[at] = root - top / bottom
        if max(abs(root - other) for root, other in zip(found, last)) < 1e-14:
            break
    return max(abs(root) for root in found)


def ranked(forbidden, n):
    """The orders of n things that are let, in the sequence of their words."""
    return sorted(lot(forbidden, n), key=lambda order: ways_to(n)[order][0][0] if order else ())


def draw(many, tape):
    """(number, read) as [12] says it, None if the tape does not suffice."""
    bits = 0
    while 2 ** bits < many:
        bits += 1
    rest, read = tape, 0
    while len(rest) >= bits:
        number = sum(2 ** (bits - 1 - at) * bit for at, bit in enumerate(rest[:bits]))
        rest, read = rest[bits:], read + bits
        if number < many:
            return number, read
    return None


def made(sorter, order):
    """What a sorter makes, told otherwise than by its steps: only the queues are run as they stand."""
    if sorter == "popper":
        begins = [at for at in range(len(order)) if at == 0 or order[at - 1] < order[at]] + [len(order)]
        return tuple(number for begin, end in zip(begins, begins[1:]) for number in order[begin:end][::-1])
    if sorter == "queues":
        rows = ([], [])
        for number in order:
            fits = [row for row in rows if row == [] or row[-1] < number]
            (fits or rows)[0].append(number)
        left = ()
        while rows[0] and rows[1]:
            left += (min(rows, key=lambda row: row[0]).pop(0),)
        return left + tuple(rows[0] + rows[1])
    if order == ():
        return ()
    at = order.index(max(order))
    behind = order[at + 1:] if sorter == "bubble" else made(sorter, order[at + 1:])
    return made(sorter, order[:at]) + behind + order[at:at + 1]


def changed(word, order):
    n = len(order)
    if word == "turned":
        return tuple(order[n - 1 - at] for at in range(n))
    if word == "mirrored":
        return tuple(n + 1 - number for number in order)
    return tuple(sorted(range(1, n + 1), key=lambda place: order[place - 1]))


@lru_cache(None)
def saying_lot(saying, n):
    """The orders of n things that a saying means, by its parts."""
    word, parts = saying[0], saying[1:]
    if word == "list":
        return frozenset(lot(parts[0], n))
    if word == "sorted":
        return frozenset(order for order in orders_of(n) if made(parts[0], order) == tuple(range(1, n + 1)))
    lots = [saying_lot(part, n) for part in parts]
    if word == "both":
        return lots[0] & lots[1]
    if word == "either":
        return lots[0] | lots[1]
    return frozenset(changed(word, order) for order in lots[0])


def least_without(is_in, most):
    """The orders of up to so many things that are not in, though all that they show else are."""
    found = []
    for order in orders_to(most):
        if not is_in(order) and not any(one in patterns_in(order) for one in found):
            found.append(order)
    return tuple(found)


NUMBER = "(?:0|[1-9][0-9]{0,8})"
LETTER = "(?:[1-9][0-9]{0,8}[mlrf])"


def row(of, gap=" "):
    return f"(?:{of}(?:{gap}{of})*)"


def read_order(line):
    if line == "-":
        return ()
    if not re.fullmatch(row(NUMBER), line):
        return None
    found = tuple(int(number) for number in line.split())
    return found if set(found) == set(range(1, len(found) + 1)) and len(set(found)) == len(found) else None


def read_list(line):
    found = () if line == "-" else tuple(read_order(part) for part in line.split(", "))
    return None if None in found or () in found else found


def read_word(line):
    if not re.fullmatch(f"-|{row(LETTER)}", line):
        return None
    return tuple((int(part[:-1]), "mlrf".index(part[-1])) for part in re.findall(LETTER, line))


def read_row(line, k):
    found = re.fullmatch(f"{k}( end)? : (-|{row(LETTER + ' ' + NUMBER, ', ')})", line)
    if not found:
        return None
    steps = re.findall(f"({LETTER}) ({NUMBER})", found[2])
    return tuple((read_word(letter)[0], int(state)) for letter, state in steps), found[1] is not None


def read_saying(line):
    """Told by what a text can begin with: what stands behind it is read on."""
    found = saying_ahead(line)
    return found[0] if found and found[1] == "" else None


def saying_ahead(line):
    leaf = re.match(r"\(list \[([^]\[()]*)\]\)", line)
    if leaf:
        patterns = read_list(leaf[1])
        return None if patterns is None else (("list", patterns), line[leaf.end():])
    leaf = re.match(r"\(sorted (stack|popper|queues|bubble)\)", line)
    if leaf:
        return ("sorted", leaf[1]), line[leaf.end():]
    begin = re.match(r"\((turned|mirrored|inverse|both|either)(?= )", line)
    if not begin:
        return None
    told, line = (begin[1],), line[begin.end():]
    for _ in range(2 if begin[1] in ("both", "either") else 1):
        found = saying_ahead(line[1:]) if line[:1] == " " else None
        if not found:
            return None
        told, line = told + (found[0],), found[1]
    return (told, line[1:]) if line[:1] == ")" else None


def read(reader, text):
    """(what has the text, None), or (None, the number of an Unreadable)."""
    first, *more = text.split("\n")
    found = reader(first)
    return (None, 1) if found is None else (None, 2) if more else (found, None)


def read_machine(text):
    lines = text.split("\n")
    rows = [read_row(line, k) for k, line in enumerate(lines)]
    if None in rows:
        return None, rows.index(None) + 1
    right = all(
        [letter for letter, _ in steps] == sorted({letter for letter, _ in steps})
        and all(state < len(lines) for _, state in steps) for steps, _ in rows)
    if not right:
        return None, 0
    return (tuple(steps for steps, _ in rows), tuple(k for k, (_, end) in enumerate(rows) if end)), None
