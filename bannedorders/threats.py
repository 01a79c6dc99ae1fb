"""What threatens a form: what must not come into its slots, lest a pattern be shown.

A threat is (order, slots): what is still to come must not show the order with each of its things in the slot that
is told for it, from 1 on, ascending. For the rest of the order, the part of a pattern with its least numbers, stands
in the form already. The threats alone tell what may still come into the slots, and what the threats are behind a
letter; so two forms with as many slots and the same threats are as good as one. That each pattern as a whole is a
threat in all slots goes without saying: it is never told.
"""

from itertools import combinations

from bannedorders.lists import least
from bannedorders.patterns import pattern_of

# By how many slots a form becomes wider, by the way of a letter.
MORE = (1, 0, 0, -1)
# The view of the first form: one slot, and no threats but those that go without saying.
START = (1, ())
# The index of the threat of nothing at all: where it is met, a pattern is shown already.
SHOWN = 0


def keeps_left(way):
    """Return True if letters of a way leave a slot on the left of the number, otherwise False."""
    return way in (0, 2)


def keeps_right(way):
    """Return True if letters of a way leave a slot on the right of the number, otherwise False."""
    return way in (0, 1)


def slots_behind(slots, letter, left, right):
    """Return the slots of a threat behind a letter, so many of its own coming left and right, None if they cannot."""
    slot, way = letter
    if (left > 0 and not keeps_left(way)) or (right > 0 and not keeps_right(way)):
        return None
    ahead = tuple([other for other in slots if other < slot])
    behind = tuple([other + MORE[way] for other in slots if other > slot])
    second = slot + 1 if keeps_left(way) else slot
    return ahead + (slot,) * left + (second,) * right + behind


def without_least(order):
    """Return the order without its number 1."""
    return tuple([number - 1 for number in order if number > 1])


def threats_behind(threat, letter):
    """Return the threats that come of one by a letter, whose number is no thing of it or its least one."""
    order, slots = threat
    many = slots.count(letter[0])
    found = [(order, slots_behind(slots, letter, left, many - left)) for left in range(many + 1)]
    if slots[order.index(1)] == letter[0]:
        left = order.index(1) - slots.index(letter[0])
        found.append((without_least(order), slots_behind(slots, letter, left, many - 1 - left)))
    return [(rest, places) for rest, places in found if places is not None]


def ascending(low, high, many):
    """Return all tuples of so many integers from low to high, ascending, the same ones twice too."""
    picks = list(combinations(range(high - low + many), many))
    return [tuple([low + number - at for at, number in enumerate(pick)]) for pick in picks]


def first_threats(pattern, wide, letter):
    """Return the threats of a pattern whose least number a letter puts into a form with so many slots."""
    slot, way = letter
    last = slot if keeps_left(way) else slot - 1
    rest = without_least(pattern)
    left = pattern.index(1)
    befores = ascending(1, last, left)
    afters = ascending(last + 1, wide + MORE[way], len(rest) - left)
    return [(rest, before + after) for before in befores for after in afters]


class Threats:
    """The threats of a list, met so far, each with an index, and how forms change by letters.

    A view is what of a form matters: (how many slots, the ascending tuple of the indexes of its threats), without
    those that another one of them is within.
    """

    def __init__(self, forbidden):
        self.patterns = least(forbidden)
        self.told = []
        self.indexes = {}
        self.within = []
        self.behind = {}
        self.begun = {}
        self.moves = {}
        self.hopes = {}
        self.index_of(((), ()))

    def index_of(self, threat):
        """Return the index of a threat, a new one if it was not met yet."""
        if threat not in self.indexes:
            within = self.all_within(threat)
            self.indexes[threat] = len(self.told)
            self.told.append(threat)
            self.within.append(within)
        return self.indexes[threat]

    def all_within(self, threat):
        """Return the tuple of the indexes of the threats within a threat, without its own."""
        order, slots = threat
        found = {}
        for at in range(len(order)):
            less = (pattern_of(order[:at] + order[at + 1:]), slots[:at] + slots[at + 1:])
            index = self.index_of(less)
            found[index] = True
            for lesser in self.within[index]:
                found[lesser] = True
        return tuple(found)

    def all_behind(self, index, letter):
        """Return the indexes of the threats that come of the one with an index by a letter."""
        found = threats_behind(self.told[index], letter)
        return tuple([self.index_of(threat) for threat in found])

    def all_begun(self, wide, letter):
        """Return the indexes of the threats that a letter begins in a form with so many slots."""
        key = (wide, letter)
        if key not in self.begun:
            found = [threat for pattern in self.patterns for threat in first_threats(pattern, wide, letter)]
            self.begun[key] = tuple([self.index_of(threat) for threat in found])
        return self.begun[key]

    def view_behind(self, view, letter):
        """Return the view of a form behind a letter, None if it shows a pattern."""
        wide, held = view
        begun = self.all_begun(wide, letter)
        seen = set(begun)
        behind = self.behind.setdefault(letter, {})
        for index in held:
            if index not in behind:
                behind[index] = self.all_behind(index, letter)
            for other in behind[index]:
                seen.add(other)
        if SHOWN in seen:
            return None
        kept = []
        for index in sorted(seen):
            for lesser in self.within[index]:
                if lesser in seen:
                    break
            else:
                kept.append(index)
        return (wide + MORE[letter[1]], tuple(kept))

    def moved(self, view, letter):
        """Return the view of a form behind a letter, None if it shows a pattern."""
        key = (view, letter)
        if key not in self.moves:
            self.moves[key] = self.view_behind(view, letter)
        return self.moves[key]

    def is_open(self, view):
        """Return True if a form with a view is open, otherwise False, of None too."""
        if view is None:
            return False
        if view not in self.hopes:
            # It is enough to fill each slot by one number: what is more only shows more.
            wide, _ = view
            filled = any(self.is_open(self.moved(view, (slot, 3))) for slot in range(1, wide + 1))
            self.hopes[view] = wide == 0 or filled
        return self.hopes[view]
