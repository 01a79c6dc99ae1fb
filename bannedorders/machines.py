"""Machines that spell words: those of lists, least ones, and what two of them spell."""

from bannedorders.alternations import endless
from bannedorders.errors import InvalidMachine, InvalidWord, NoMachine
from bannedorders.patterns import are_whole, check_number, is_whole
from bannedorders.slots import is_letter, letters_of
from bannedorders.threats import START, Threats


def is_row(told, many):
    """Return True if something can be the row of a state of a machine with so many states, otherwise False."""
    if not isinstance(told, tuple):
        return False
    for step in told:
        if not isinstance(step, tuple) or len(step) != 2 or not is_letter(step[0]):
            return False
        if not is_whole(step[1]) or not 0 <= step[1] < many:
            return False
    return rises([letter for letter, _ in told])


def rises(things):
    """Return True if each thing but the first is greater than the one ahead, otherwise False."""
    return all(things[at - 1] < things[at] for at in range(1, len(things)))


def is_machine(told):
    """Return True if something is a machine, otherwise False."""
    if not isinstance(told, tuple) or len(told) != 2:
        return False
    rows, ends = told
    if not isinstance(rows, tuple) or len(rows) == 0 or not are_whole(ends):
        return False
    if not rises(ends) or not all(0 <= end < len(rows) for end in ends):
        return False
    return all(is_row(row, len(rows)) for row in rows)


def check_machine(machine):
    """Raise InvalidMachine for what is no machine."""
    if not is_machine(machine):
        raise InvalidMachine(machine)


def explored(start, row_of):
    """Return the list of the states that are reached from one, as they are met breadth first, and their rows.

    States may be whatever can be a key. A function tells the row of one, with states; here they are numbered.
    """
    numbers = {start: 0}
    states = [start]
    rows = []
    while len(rows) < len(states):
        row = row_of(states[len(rows)])
        for _, state in row:
            if state not in numbers:
                numbers[state] = len(states)
                states.append(state)
        rows.append(tuple([(letter, numbers[state]) for letter, state in row]))
    return states, tuple(rows)


def sources_of(rows):
    """Return, for each state, the list of the letters that lead to it, each with the state that it leads from."""
    sources = [[] for _ in rows]
    for state, row in enumerate(rows):
        for letter, other in row:
            sources[other].append((letter, state))
    return sources


def hopeful(rows, ends):
    """Return the dict of the states from which a word leads to an end."""
    sources = sources_of(rows)
    found = {end: True for end in ends}
    left = list(ends)
    while left:
        state = left.pop()
        for _, source in sources[state]:
            if source not in found:
                found[source] = True
                left.append(source)
    return found


class Classes:
    """The states of a machine in classes, which are divided until the same words lead from all of one to an end.

    As Hopcroft does it: of a class that is divided only the smaller half need divide the others again.
    """

    def __init__(self, rows, ends):
        self.sources = sources_of(rows)
        self.class_of = [1] * len(rows)
        for end in ends:
            self.class_of[end] = 0
        self.members = [{}, {}]
        for state, number in enumerate(self.class_of):
            self.members[number][state] = True
        # Both, for letters may lead nowhere, so that the one does not tell of the other.
        self.left = [0, 1]
        self.waits = [True, True]
        while self.left:
            number = self.left.pop()
            self.waits[number] = False
            self.divide_by(number)

    def divide_by(self, number):
        """Divide the classes of which a letter leads some states into a class and some not."""
        marked = {}
        for state in self.members[number]:
            for letter, source in self.sources[state]:
                marked.setdefault(letter, []).append(source)
        for letter in marked:
            self.divide(marked[letter])

    def divide(self, states):
        """Divide the classes that have some of these states and some others."""
        touched = {}
        for state in states:
            touched.setdefault(self.class_of[state], []).append(state)
        for number in touched:
            if len(touched[number]) < len(self.members[number]):
                self.part_from(number, touched[number])

    def part_from(self, number, states):
        """Make some states of a class, not all, a class of their own."""
        new = len(self.members)
        self.members.append({state: True for state in states})
        for state in states:
            del self.members[number][state]
            self.class_of[state] = new
        self.waits.append(False)
        if not self.waits[number] and len(self.members[number]) < len(states):
            new = number
        self.left.append(new)
        self.waits[new] = True


def least_of(rows, ends):
    """Return the least machine of the words that a machine with some rows and ends spells."""
    live = hopeful(rows, ends)
    # Nothing leads to a hopeless state any more: if state 0 is one, it is all that is reached.
    useful = [[(letter, to) for letter, to in row if to in live] for row in rows]
    class_of = Classes(useful, ends).class_of
    firsts = {}
    for state, number in enumerate(class_of):
        firsts.setdefault(number, state)
    stands_for = [firsts[number] for number in class_of]
    merged = [[(letter, stands_for[to]) for letter, to in row] for row in useful]
    reached, least_rows = explored(stands_for[0], lambda at: merged[at])
    return (least_rows, tuple([number for number, first in enumerate(reached) if first in ends]))


def spells(machine, word):
    """Return True if a machine spells a word, otherwise False."""
    check_machine(machine)
    if not isinstance(word, tuple) or not all(is_letter(letter) for letter in word):
        raise InvalidWord(word)
    rows, ends = machine
    state = 0
    for letter in word:
        row = dict(rows[state])
        if letter not in row:
            return False
        state = row[letter]
    return state in ends


def open_row(threats, view):
    """Return the row of a view: the letters that lead to open views, with these."""
    row = [(letter, threats.moved(view, letter)) for letter in letters_of(view[0])]
    return [(letter, other) for letter, other in row if threats.is_open(other)]


def check_has_machine(forbidden):
    """Raise InvalidList for what is no list, NoMachine for a list that does not stop all four kinds."""
    kind = endless(forbidden)
    if kind is not None:
        raise NoMachine(kind)


def machine(forbidden):
    """Return the least machine of the whole words of the orders, but (), that a list lets."""
    check_has_machine(forbidden)
    threats = Threats(forbidden)
    views, rows = explored(START, lambda view: open_row(threats, view))
    return least_of(rows, {at: True for at, view in enumerate(views) if view[0] == 0})


def least_machine(machine):
    """Return the least machine of the words that a machine spells."""
    check_machine(machine)
    rows, ends = machine
    return least_of(rows, {end: True for end in ends})


def steps_from(machine, state):
    """Return the dict of the letters that lead from a state of a machine, none from None, with where they lead."""
    return {} if state is None else dict(machine[0][state])


def pair_row(one, other, pair):
    """Return the row of a pair of states of two machines, None standing for a machine that cannot go on."""
    steps = steps_from(one, pair[0])
    others = steps_from(other, pair[1])
    told = sorted(set(list(steps) + list(others)))
    return [(letter, (steps.get(letter), others.get(letter))) for letter in told]


def paired(one, other):
    """Return the rows of two machines that run side by side, and whether each of both may end there, by state."""
    pairs, rows = explored((0, 0), lambda pair: pair_row(one, other, pair))
    return rows, [(state in one[1], another in other[1]) for state, another in pairs]


def same_words(one, other):
    """Return None, or the first word, by length and then as tuples, that just one of two machines spells."""
    check_machine(one)
    check_machine(other)
    rows, marks = paired(one, other)
    # Met breadth first, letters ascending, each state is reached by its first word, and they stand by these.
    found = {0: ()}
    for state, row in enumerate(rows):
        if marks[state][0] != marks[state][1]:
            return found[state]
        for letter, to in row:
            if to not in found:
                found[to] = found[state] + (letter,)
    return None


def put_side_by_side(one, other, wanted):
    """Return the least machine of the words for which it is wanted whether the one and the other machine spell them."""
    check_machine(one)
    check_machine(other)
    rows, marks = paired(one, other)
    return least_of(rows, {state: True for state, mark in enumerate(marks) if mark in wanted})


def met_machine(one, other):
    """Return the least machine of the words that both machines spell."""
    return put_side_by_side(one, other, ((True, True),))


def joined_machine(one, other):
    """Return the least machine of the words that at least one of two machines spells."""
    return put_side_by_side(one, other, ((True, True), (True, False), (False, True)))


def less_machine(one, other):
    """Return the least machine of the words that the one machine spells and the other one does not."""
    return put_side_by_side(one, other, ((True, False),))


def lengths(rows, ends, n):
    """Return the list of the dicts of the states from which a word of 0, 1, .. n letters leads to an end."""
    sources = sources_of(rows)
    found = [{end: True for end in ends}]
    for _ in range(n):
        ahead = found[-1]
        found.append({source: True for state in ahead for _, source in sources[state]})
    return found


def words(machine, n):
    """Return the ascending list of the words of n letters that a machine spells."""
    check_machine(machine)
    check_number(n)
    rows, ends = machine
    hopes = lengths(rows, ends, n)
    found = [((), 0)] if 0 in hopes[n] else []
    for left in range(n - 1, -1, -1):
        # Each one that is kept leads on to a word, so no more are held than are told.
        found = [(word + (letter,), to) for word, state in found for letter, to in rows[state] if to in hopes[left]]
    return [word for word, _ in found]
