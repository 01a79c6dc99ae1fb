"""consoles.py: named lists, what texts do and answer, and what is taken back."""

import random
import re
import unittest

import plain
from checking import NO_LISTS, NO_NAMES, Checked, bent
from samples import DEEP, LARGE, LISTS, LITTLE

from bannedorders.consoles import Console
from bannedorders.counts import count, rule
from bannedorders.errors import (
    InvalidList, InvalidName, InvalidNumber, NoMachine, NothingToUndo, NotLet, OrderError, UnknownName, Unorderly)
from bannedorders.machines import machine
from bannedorders.ranks import nth, place_of
from bannedorders.rates import rate
from bannedorders.sayings import meaning
from bannedorders.texts import show_list, show_machine, show_order, show_saying

TWO = ((2, 3, 1), (3, 1, 2))
KINDS = ((-1, -1), (-1, 1), (1, -1), (1, 1))
# Below 0 too, but the sign of -0 is needless.
NAME, INTEGER = "([a-z]{1,8})", "(0|-?[1-9][0-9]{0,8})"
# How the texts look, each with what reads its parts, where these are no names.
TEXTS = {
    "list": (f"list {NAME} (.*)", plain.read_list), "say": (f"say {NAME} (.*)", plain.read_saying),
    "both": (f"both {NAME} {NAME} {NAME}", None), "either": (f"either {NAME} {NAME} {NAME}", None),
    "turned": (f"turned {NAME} {NAME}", None), "mirrored": (f"mirrored {NAME} {NAME}", None),
    "inverse": (f"inverse {NAME} {NAME}", None), "drop": (f"drop {NAME}", None), "undo": ("undo", None),
    "show": (f"show {NAME}", None), "lets": (f"lets {NAME} (.*)", plain.read_order),
    "same": (f"same {NAME} {NAME}", None), "within": (f"within {NAME} {NAME}", None), "finite": (f"finite {NAME}", None),
    "parting": (f"parting {NAME} {NAME}", None), "endless": (f"endless {NAME}", None),
    "count": (f"count {NAME} {INTEGER}", None), "rule": (f"rule {NAME}", None), "rate": (f"rate {NAME}", None),
    "nth": (f"nth {NAME} {INTEGER} {INTEGER}", None), "place": (f"place {NAME} (.*)", plain.read_order),
    "machine": (f"machine {NAME}", None), "names": ("names", None),
}


def line(numbers):
    return " ".join(str(number) for number in numbers)


def fraction(number):
    return str(number[0]) if number[1] == 1 else f"{number[0]}/{number[1]}"


def first_open(forbidden):
    """The first kind of which an alternation of as many as the longest pattern has shows none, as a line, or no."""
    most = max((len(pattern) for pattern in forbidden), default=0)
    return next((line(kind) for kind in KINDS if plain.lets(forbidden, plain.alternation(kind, most))), "no")


def parted(one, other):
    apart = [pattern for pattern in one + other if plain.lets(one, pattern) != plain.lets(other, pattern)]
    return line(min(apart, key=lambda order: (len(order), order))) if apart else "no"


class Refused(Exception):
    """What a plain model refuses a text with: the class of the error, and its value."""


def not_below(n):
    if n < 0:
        raise Refused(InvalidNumber, n)
    return n


class Model:
    """A console as plainly as the document says it: for each change, all lists that there were before."""

    def __init__(self):
        self.lists, self.before = {}, []

    def change(self, name, forbidden):
        self.before.append(dict(self.lists))
        self.lists.pop(name, None)
        if forbidden is not None:
            self.lists[name] = forbidden

    def held(self, name):
        if name not in self.lists:
            raise Refused(UnknownName, name)
        return self.lists[name]

    def order(self, text):
        word = text.split(" ")[0]
        form, reader = TEXTS.get(word, ("(?!)", None))
        found = re.fullmatch(form, text)
        parts = list(found.groups()) if found else []
        if found and reader:
            parts[-1] = reader(parts[-1])
        if not found or None in parts:
            raise Refused(Unorderly, text)
        if hasattr(self, "make_" + word):
            return self.keeping(word, *parts)
        return getattr(self, "do_" + word)(*parts)

    def keeping(self, word, name, *told):
        made = getattr(self, "make_" + word)(*[self.held(one) if isinstance(one, str) else one for one in told])
        self.change(name, made)
        return "done"

    def make_list(self, told):
        return told

    def make_say(self, saying):
        return plain.least_without(lambda order: order in plain.saying_lot(saying, len(order)), 6)

    def make_both(self, one, other):
        return plain.least(one + other)

    def make_either(self, one, other):
        return plain.least_without(lambda order: plain.lets(one, order) or plain.lets(other, order), 6)

    def make_turned(self, told):
        return plain.least(tuple(plain.changed("turned", pattern) for pattern in told))

    def make_mirrored(self, told):
        return plain.least(tuple(plain.changed("mirrored", pattern) for pattern in told))

    def make_inverse(self, told):
        return plain.least(tuple(plain.changed("inverse", pattern) for pattern in told))

    def do_drop(self, name):
        self.held(name)
        self.change(name, None)
        return "done"

    def do_undo(self):
        if not self.before:
            raise Refused(NothingToUndo, 0)
        self.lists = self.before.pop()
        return "done"

    def do_names(self):
        return "\n".join(sorted(self.lists)) if self.lists else "none"

    def do_show(self, name):
        return ", ".join(line(pattern) for pattern in self.held(name)) or "-"

    def do_lets(self, name, order):
        return "yes" if plain.lets(self.held(name), order) else "no"

    def do_same(self, one, other):
        return "yes" if plain.least(self.held(one)) == plain.least(self.held(other)) else "no"

    def do_within(self, one, other):
        one, other = self.held(one), self.held(other)
        return "no" if any(plain.lets(one, pattern) for pattern in other) else "yes"

    def do_finite(self, name):
        told = self.held(name)
        return "yes" if all(any(list(pattern) == sorted(pattern)[::way] for pattern in told) for way in (1, -1)) else "no"

    def do_parting(self, one, other):
        return parted(self.held(one), self.held(other))

    def do_endless(self, name):
        return first_open(self.held(name))

    def with_machine(self, name):
        forbidden = self.held(name)
        kind = first_open(forbidden)
        if kind != "no":
            raise Refused(NoMachine, tuple(int(number) for number in kind.split()))
        return forbidden

    def do_count(self, name, n):
        return str(len(plain.lot(self.with_machine(name), not_below(int(n)))))

    def do_rule(self, name):
        firsts, numbers = rule(self.with_machine(name))
        return line(firsts) + " : " + " ".join(fraction(number) for number in numbers)

    def do_rate(self, name):
        return " ".join(fraction(number) for number in rate(self.with_machine(name))[1:])

    def do_nth(self, name, n, i):
        found = plain.ranked(self.with_machine(name), not_below(int(n)))
        if not_below(int(i)) >= len(found):
            raise Refused(InvalidNumber, int(i))
        return line(found[int(i)]) or "-"

    def do_place(self, name, order):
        found = plain.ranked(self.with_machine(name), len(order))
        if order not in found:
            raise Refused(NotLet, order)
        return str(found.index(order))

    def do_machine(self, name):
        return show_machine(machine(self.with_machine(name)))


NAMES = ("a", "list", "abcdefgh", "zz")
KEPT = tuple(forbidden for forbidden in LISTS if all(len(pattern) <= 3 for pattern in forbidden) and len(forbidden) <= 4)
KEPT += ((), ((2, 3, 1),), ((3, 2, 1),), ((2, 3, 1), (2, 1, 3), (2, 3, 1)))
WRONG = (
    "", " ", "list", "list a", "list a ", "list a 2 2", "list A 2 1", "list a  2 1", "list abcdefghi 2 1", "list a1 2 1",
    "drop", "drop ", "drop a b", "drop A", "undo ", "undo a", "Undo", "names ", "names a", "show", "show a b", "show  a",
    " show a", "show a ", "count a", "count a 01", "count a 1234567890", "count a b", "count a 1 1",
    "count a -0", "count a +1", "count a -01", "count a --1", "count a -+1", "count a - 1", "count a -", "count a 1-",
    "count a -1 ", "count a  -1", "count a -1\n", "count a -1234567890", "count a -b", "count a -1 -1", "count a -1.0",
    "nth a -1", "nth a -1 -1 -1", "nth a -0 0", "nth a 3 -0", "nth a -03 0", "nth a 3 -02", "nth a - 1", "nth a +3 -1",
    "nth a -1 x", "nth a x -1", "nth a -1234567890 0", "nth a 3 -1234567890", "nth a -1 -1\n", "list a -1",
    "list a -2 -1", "lets a -1", "lets a 2 -1", "place a -1", "say a (list [-1])", "names -1", "undo -1", "show -1",
    "finite a -1", "nth a 1", "nth a 1 1 1", "nth a 1 -", "both a b", "both a b b b", "both a b B", "turned a", "turned a b b",
    "lets a", "lets a 1 1", "lets a ", "lets a (list [-])", "place a 2", "say a", "say a stack", "say a (sorted queue)",
    "say a (list [2 1]", "keep a 2 1", "least a", "parting a", "machine", "rate a b", "names\n", "undo\n", "\n", "\nundo",
    "list a 2 1\n", "list a 2 1\n3 1 2", "drop a\ndrop a", "count a 5\n", "show a\n", "say a (sorted stack)\n", "rule a \n",
    "lets a 1 2\n", "lets a -\n", "nth a 3 0\n", "finite", "same a", "within a b c", "endless", "inverse a", "place a 1 2 ",
)


def some_text(chance):
    """A text by chance, wrong ones too: only of little lists, so that either may be ordered of any two."""
    a, b, c = (chance.choice(NAMES) for _ in range(3))
    order = chance.choice(plain.orders_to(4))
    return chance.choice((
        f"list {a} {show_list(chance.choice(KEPT))}", f"list {b} {show_list(chance.choice(KEPT))}",
        f"say {a} {show_saying(chance.choice(LITTLE))}", f"say {a} (turned {show_saying(chance.choice(LITTLE))})",
        f"both {a} {b} {c}", f"turned {a} {b}", f"mirrored {a} {b}", f"inverse {a} {b}", f"drop {a}", f"drop {b}", "undo",
        "undo", f"show {a}", f"lets {a} {show_order(order)}", f"same {a} {b}", f"within {a} {b}", f"finite {a}",
        f"parting {a} {b}", f"endless {a}", f"count {a} {chance.randint(-2, 5)}", f"rule {a}", f"rate {a}",
        f"nth {a} {chance.randint(-1, 4)} {chance.randint(-1, 3)}", f"place {a} {show_order(order)}", f"machine {a}",
        "names", chance.choice(WRONG)))


class Run(Checked):

    def alike(self, console, model):
        self.same(console.names(), sorted(model.lists))
        for name in NAMES:
            if name in model.lists:
                self.same(console.forbidden(name), model.lists[name])
            else:
                self.refused_with(UnknownName, name, console.forbidden, name)

    def step(self, console, model, text):
        """The same answer, or the same refusal, and the same names and lists."""
        try:
            wanted = model.order(text)
        except Refused as refusal:
            self.refused_with(*refusal.args, console.order, text)
        else:
            self.same(console.order(text), wanted)
        self.alike(console, model)


class Runs(Run):

    def test_against_a_plain_model(self):
        for seed in range(50):
            chance = random.Random(seed)
            console, model = Console(), Model()
            for _ in range(100):
                self.step(console, model, some_text(chance))

    def test_either(self):
        chance = random.Random(5)
        for _ in range(30):
            console, model = Console(), Model()
            for name in ("a", "b"):
                self.step(console, model, f"list {name} {show_list(chance.choice(KEPT))}")
            for text in ("either c a b", "either a a b", "show a", "undo", "either b b b", "within b a", "names"):
                self.step(console, model, text)

    def test_undo_to_the_beginning_and_done_again(self):
        for seed in range(8):
            chance = random.Random(100 + seed)
            texts = [text for text in (some_text(chance) for _ in range(80)) if text != "undo"]
            console, model, states = Console(), Model(), [()]
            for text in texts:
                self.step(console, model, text)
                now = tuple((name, console.forbidden(name)) for name in console.names())
                states += [now] * (len(model.before) >= len(states))
            self.assertEqual(len(states), len(model.before) + 1)
            for state in states[-2::-1]:
                console.undo()
                self.assertEqual(tuple((name, console.forbidden(name)) for name in console.names()), state)
            self.refused_with(NothingToUndo, 0, console.undo)
            self.refused_with(NothingToUndo, 0, console.order, "undo")
            again = Model()
            for text in texts:
                self.step(console, again, text)
            self.assertEqual(again.lists, model.lists)

    def test_calls_and_texts_together(self):
        """What is taken back is the last of both."""
        console = Console()
        self.same(console.keep("a", TWO), None)
        self.same(console.order("turned b a"), "done")
        self.same(console.drop("a"), None)
        self.same(console.order("list b -"), "done")
        self.same([console.undo(), console.names(), console.forbidden("b")], [None, ["b"], ((1, 3, 2), (2, 1, 3))])
        self.same([console.order("undo"), console.names(), console.forbidden("a")], ["done", ["a", "b"], TWO])
        self.same([console.order("undo"), console.undo(), console.names()], ["done", None, []])

    def test_wrong_texts(self):
        for text in WRONG:
            console = Console()
            console.keep("a", TWO)
            console.keep("b", ())
            self.refused(Unorderly, text, console.order, text)
            self.same([console.names(), console.forbidden("a"), console.forbidden("b")], [["a", "b"], TWO, ()])
            console.undo()
            self.same(console.names(), ["a"])


class Answers(Checked):

    def told(self, forbidden=TWO):
        console = Console()
        console.keep("a", forbidden)
        return console

    def test_by_hand(self):
        console = self.told()
        for text, wanted in (
                ("show a", "2 3 1, 3 1 2"), ("lets a 3 2 1", "yes"), ("lets a 2 3 1", "no"), ("finite a", "no"),
                ("endless a", "no"), ("count a 60", str(2 ** 59)), ("rule a", "1 1 : 2 0"), ("rate a", "2 2"),
                ("nth a 3 3", "3 2 1"), ("place a 3 2 1", "3"), ("names", "a"), ("same a a", "yes"), ("within a a", "yes"),
                ("parting a a", "no"), ("list b 2 1", "done"), ("parting b a", "2 1"), ("within b a", "yes"),
                ("within a b", "no"), ("same a b", "no"), ("machine b", "0 : 1l 0, 1f 1\n1 end : -"), ("rule b", "1 : 1"),
                ("rate b", "1 1"), ("either c a b", "done"), ("show c", "2 3 1, 3 1 2"), ("both c b b", "done"),
                ("show c", "2 1"), ("names", "a\nb\nc"), ("turned c a", "done"), ("show c", "1 3 2, 2 1 3"),
                ("mirrored c a", "done"), ("show c", "1 3 2, 2 1 3"), ("inverse c a", "done"), ("show c", "2 3 1, 3 1 2"),
                ("drop c", "done"), ("undo", "done"), ("names", "a\nb\nc"), ("say c (both (sorted stack) (sorted queues))", "done"),
                ("show c", "2 3 1, 3 2 1"), ("count c 0", "1"), ("nth c 0 0", "-"), ("place c -", "0"), ("lets c -", "yes")):
            self.same(console.order(text), wanted)

    def test_the_edges(self):
        console = Console()
        self.same(console.order("names"), "none")
        self.same([console.order("list any -"), console.order("show any"), console.order("endless any")],
                  ["done", "-", "-1 -1"])
        self.same([console.order("list none 1"), console.order("count none 5"), console.order("finite none")],
                  ["done", "0", "yes"])
        self.same([console.order("rule none"), console.order("rate none"), console.order("machine none")],
                  ["1 : 0", "0 0", "0 : -"])
        self.same([console.order("list stack 2 3 1"), console.order("endless stack")], ["done", "1 -1"])
        self.same(console.order("parting any none"), "1")
        self.same([console.order("list c 1 3 2, 3 2 1"), console.order("rule c")], ["done", "1 1 2 : 3 -3 1"])

    def test_kept_as_it_stands(self):
        console = Console()
        console.order("list a 3 1 2, 2 1, 2 1")
        self.same([console.forbidden("a"), console.order("show a")], [((3, 1, 2), (2, 1), (2, 1)), "3 1 2, 2 1, 2 1"])
        console.order("say a (list [3 1 2, 2 1, 2 1])")
        self.same(console.forbidden("a"), ((2, 1),))
        console.keep("a", TWO + TWO)
        self.same(console.forbidden("a"), TWO + TWO)

    def test_sayings(self):
        for saying in LITTLE + DEEP[:12]:
            console = Console()
            self.same(console.order(f"say a {show_saying(saying)}"), "done")
            self.same(console.forbidden("a"), meaning(saying))

    def test_numbers_below_0_and_fractions(self):
        console = self.told(((1, 3, 2), (3, 2, 1)))
        self.same(console.order("rule a"), "1 1 2 : 3 -3 1")
        console = self.told(((2, 3, 1), (3, 1, 2), (3, 2, 1)))
        low, high = console.order("rate a").split(" ")
        self.assertEqual([low, high], [fraction(number) for number in rate(console.forbidden("a"))[1:]])
        self.assertIn("/", low)

    def test_lists_of_the_program(self):
        for forbidden in LISTS[::3] + (LARGE[0][0],):
            console = self.told(forbidden)
            for n in (0, 3, 20):
                self.same(console.order(f"count a {n}"), str(count(forbidden, n)))
            self.same(console.order("machine a"), show_machine(machine(forbidden)))
            many = count(forbidden, 6)
            for i in range(0, many, 100):
                order = nth(forbidden, 6, i)
                self.same(console.order(f"nth a 6 {i}"), show_order(order))
                self.same(console.order(f"place a {show_order(order)}"), str(place_of(forbidden, order)))


class Changes(Checked):

    def test_names(self):
        console = Console()
        for name in ("z", "abcdefgh", "a", "undo", "names"):
            self.same(console.keep(name, TWO), None)
        self.same(console.names(), ["a", "abcdefgh", "names", "undo", "z"])
        self.same(console.order("names"), "a\nabcdefgh\nnames\nundo\nz")

    def test_a_new_list_takes_the_place_of_an_elder_one(self):
        console = Console()
        console.keep("a", TWO)
        console.keep("a", ((2, 1),))
        console.order("list a 1")
        self.same([console.names(), console.forbidden("a")], [["a"], ((1,),)])
        console.undo()
        self.same(console.forbidden("a"), ((2, 1),))
        console.undo()
        self.same(console.forbidden("a"), TWO)
        console.undo()
        self.same(console.names(), [])
        self.refused_with(NothingToUndo, 0, console.undo)

    def test_the_same_list_again_is_a_change(self):
        console = Console()
        console.keep("a", TWO)
        console.order("list a 2 3 1, 3 1 2")
        console.undo()
        self.same(console.forbidden("a"), TWO)
        console.undo()
        self.same(console.names(), [])

    def test_drop_and_back(self):
        console = Console()
        console.keep("a", TWO)
        console.drop("a")
        self.refused(UnknownName, "a", console.drop, "a")
        self.refused_with(UnknownName, "a", console.order, "drop a")
        console.undo()
        self.same(console.forbidden("a"), TWO)
        console.undo()
        self.same(console.names(), [])

    def test_undo_is_not_taken_back(self):
        console = Console()
        console.keep("a", TWO)
        console.keep("b", ())
        self.same([console.undo(), console.names()], [None, ["a"]])
        self.same([console.undo(), console.names()], [None, []])
        for _ in range(2):
            self.refused_with(NothingToUndo, 0, console.undo)
            self.refused_with(NothingToUndo, 0, console.order, "undo")

    def test_a_list_may_be_made_of_itself(self):
        console = Console()
        console.keep("a", ((2, 3, 1),))
        console.order("turned a a")
        self.same(console.forbidden("a"), ((1, 3, 2),))
        console.order("undo")
        self.same(console.forbidden("a"), ((2, 3, 1),))

    def test_asking_is_not_taken_back(self):
        console = Console()
        console.keep("a", TWO)
        for text in ("show a", "lets a -", "same a a", "within a a", "finite a", "parting a a", "endless a", "count a 3",
                     "rule a", "rate a", "nth a 3 0", "place a 1", "machine a", "names"):
            console.order(text)
        console.forbidden("a")
        console.names()
        console.undo()
        self.same(console.names(), [])

    def test_what_is_refused_is_not_taken_back(self):
        console = Console()
        console.keep("a", TWO)
        console.keep("b", ())
        for call, told in (
                (console.keep, ("A", TWO)), (console.keep, ("a", [])), (console.drop, ("c",)), (console.forbidden, ("c",)),
                (console.order, ("drop c",)), (console.order, ("list a 2 2",)), (console.order, ("both a a c",)),
                (console.order, ("turned c c",)), (console.order, ("count b 3",)), (console.order, ("nth a 3 4",)),
                (console.order, ("count a -1",)), (console.order, ("nth a -1 0",)), (console.order, ("nth a 3 -1",)),
                (console.order, ("count c -1",)), (console.order, ("count b -1",))):
            with self.assertRaises(OrderError):
                call(*told)
            self.same([console.names(), console.forbidden("a"), console.forbidden("b")], [["a", "b"], TWO, ()])
        console.undo()
        self.same(console.names(), ["a"])

    def test_consoles_share_nothing(self):
        one, other = Console(), Console()
        one.keep("a", TWO)
        self.same([one.names(), other.names()], [["a"], []])
        self.refused_with(NothingToUndo, 0, other.undo)

    def test_returned_lists_are_new(self):
        console = Console()
        console.names().append("more")
        self.same([console.names(), console.order("names")], [[], "none"])
        console.keep("a", TWO)
        first = console.names()
        first.append("more")
        first[0] = "b"
        self.same([console.names(), console.forbidden("a")], [["a"], TWO])

    def test_the_largest(self):
        console = Console()

        def run():
            for k in range(200):
                console.order(f"list {'abcdefgh'[:k % 8 + 1]} {show_list(KEPT[k % len(KEPT)])}")
            for _ in range(200):
                console.undo()
        self.soon(run)
        self.same(console.names(), [])
        self.refused_with(NothingToUndo, 0, console.undo)
        for forbidden, _ in LARGE:
            console.keep("a", forbidden)
            for text in ("count a 60", "rule a", "rate a", "nth a 30 0", "machine a"):
                self.soon(console.order, text)


class Wrong(Checked):

    def test_names(self):
        console = Console()
        console.keep("a", TWO)
        for name in NO_NAMES:
            self.refused(InvalidName, name, console.keep, name, TWO)
            self.refused(InvalidName, name, console.keep, forbidden=TWO, name=name)
            # To have no list is all that is asked of the others.
            self.refused(UnknownName, name, console.drop, name)
            self.refused(UnknownName, name, console.forbidden, name)
        self.same([console.names(), console.undo(), console.names()], [["a"], None, []])

    def test_lists(self):
        console = Console()
        for told in NO_LISTS:
            self.refused(InvalidList, told, console.keep, "a", told)
            self.refused(InvalidName, "A", console.keep, "A", told)
        wrong = [(2, 1)]
        self.refused(InvalidList, wrong, console.keep, forbidden=wrong, name="a")
        self.same([wrong, console.names()], [[(2, 1)], []])

    def test_unknown_names(self):
        console = Console()
        console.keep("a", TWO)
        for text, name in (
                ("show b", "b"), ("drop b", "b"), ("both a b c", "b"), ("both b a c", "c"), ("either c a d", "d"),
                ("turned a b", "b"), ("same b c", "b"), ("same a c", "c"), ("within c b", "c"), ("parting a b", "b"),
                ("count b 3", "b"), ("nth b 3 100", "b"), ("count b -1", "b"), ("nth b -1 0", "b"), ("nth b 3 -1", "b"),
                ("nth b -1 -1", "b"), ("lets b 1", "b"), ("place b 2 3 1", "b"), ("rate b", "b")):
            self.refused_with(UnknownName, name, console.order, text)

    def test_those_of_the_functions(self):
        console = Console()
        console.keep("a", TWO)
        console.keep("s", ((2, 3, 1),))
        for error, value, text in (
                (NoMachine, (1, -1), "count s 3"), (NoMachine, (1, -1), "rule s"), (NoMachine, (1, -1), "rate s"),
                (NoMachine, (1, -1), "nth s 3 100"), (NoMachine, (1, -1), "place s 2 3 1"),
                (NoMachine, (1, -1), "machine s"), (InvalidNumber, 4, "nth a 3 4"), (InvalidNumber, 1, "nth a 0 1"),
                (NotLet, (2, 3, 1), "place a 2 3 1")):
            self.refused_with(error, value, console.order, text)

    def test_integers_below_0(self):
        """They are integers of a text as others are: what is wrong with them is what the functions say."""
        console = Console()
        kept = {"a": TWO, "s": ((2, 3, 1),)}
        for name, forbidden in kept.items():
            console.keep(name, forbidden)
        for error, value, text in (
                (InvalidNumber, -1, "count a -1"), (InvalidNumber, -10, "count a -10"),
                (InvalidNumber, -999999999, "count a -999999999"), (InvalidNumber, -2, "nth a 3 -2"),
                (InvalidNumber, -1, "nth a 0 -1"), (InvalidNumber, -999999999, "nth a 3 -999999999"),
                (InvalidNumber, -7, "nth a -7 0"), (InvalidNumber, -999999999, "nth a -999999999 0"),
                (InvalidNumber, -7, "nth a -7 -8"), (InvalidNumber, -1, "nth a -1 -999999999"),
                (InvalidNumber, -1, "nth a -1 100"), (NoMachine, (1, -1), "count s -1"),
                (NoMachine, (1, -1), "nth s -1 0"), (NoMachine, (1, -1), "nth s 3 -1"),
                (NoMachine, (1, -1), "nth s -1 -2"), (UnknownName, "x", "count x -1"), (UnknownName, "x", "nth x -1 0"),
                (UnknownName, "x", "nth x 3 -1"), (UnknownName, "x", "nth x -1 -2")):
            self.refused_with(error, value, console.order, text)
            self.same({name: console.forbidden(name) for name in console.names()}, kept)

    def test_bent_integers(self):
        """Each is the integer as it is shown, or the text is none; of the rising orders there is one of each length."""
        console = Console()
        console.keep("a", ((2, 1),))
        met = set()
        for shown in ("-10", "-1", "-999999999", "0", "12"):
            for part in bent(shown):
                n = int(part) if re.fullmatch(INTEGER, part) else None
                # Longer orders than these are more than there is time for.
                if n is not None and n > 200:
                    continue
                met.add(n)
                for text, wanted in (
                        (f"count a {part}", "1"), (f"nth a {part} 0", line(range(1, (n or 0) + 1)) or "-"),
                        (f"nth a 3 {part}", "1 2 3" if n == 0 else None)):
                    if n is None:
                        self.refused(Unorderly, text, console.order, text)
                    elif n < 0 or wanted is None:
                        self.refused_with(InvalidNumber, n, console.order, text)
                    else:
                        self.same(console.order(text), wanted)
        self.assertTrue({None, 0, 1, 10, 112, -1, -2, -100, -99999999, -999999991} <= met)

    def test_texts_first(self):
        """A wrong text is wrong whatever its names are."""
        console = Console()
        for text in ("lets b 2 2", "count b x", "count b -01", "nth b 3 -0", "nth b -0 3", "both a b", "place b 0",
                     "drop B", "show b\nnames"):
            self.refused(Unorderly, text, console.order, text)

    def test_what_is_no_text(self):
        console = Console()
        for told in (None, True, 0, b"names", ["names"], ("names",), {}):
            self.refused(Unorderly, told, console.order, told)
            self.refused(Unorderly, told, console.order, text=told)


if __name__ == "__main__":
    unittest.main()
