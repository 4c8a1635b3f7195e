"""What the tests share: plain ways by trying, strange values, and a case that looks at errors closely."""

import unittest
from copy import deepcopy
from itertools import combinations

from onejumps.errors import JumpError

TREES = ("list", (((2, 3, 1), None),))
PARTINGS = ("list", (((1, 3, 2), 1),))
RISING = ("list", (((2, 1), None),))
ALL = ("list", ())
NONE_OF_TWO = ("list", (((1, 2), None), ((2, 1), None)))

NO_INTEGERS = [None, True, False, "1", "", b"\x01", [1], (1,), {1: 1}]

NO_ORDERS = [
    None, True, False, 0, 1, "", "1", "12", b"\x01", [], [1], [1, 2], {1: 2}, {1, 2},
    (), (0,), (2,), (-1,), (1, 1), (1, 3), (0, 1), (2, 3), (1, 2, 2), (1, 2, 4), (-1, 1, 2),
    (True,), (True, 2), (2, True), (False, 1), (None,), (1, None), (1, "2"), ("1", "2"),
    ([1],), (1, [2]), ((1, 2),), ((1,), (2,)), (1, (2,)), (1, {2: 2}),
]

NO_BARS = [
    None, True, 0, "", "21", [], (), (2, 1), ((2, 1),), ((2, 1), None, None),
    [(2, 1), None], ([2, 1], None), ("21", None), ((1,), None), ((), None), ((1, 1), None),
    ((1, 3), None), ((True, 2), None), ((1,), 0), (None, None), (None, 0),
    ((2, 1), 1), ((2, 1), -1), ((2, 1), 2), ((2, 1), True), ((2, 1), False), ((2, 1), "0"),
    ((2, 1), ()), ((2, 1), [0]), ((2, 1), (0,)), ((1, 3, 2), 2), ((1, 3, 2), True), ((1, 3, 2), "None"),
]

BAR = ((2, 1), None)

NO_SAYINGS = [
    None, True, 0, "", "list", b"list", [], (), ("list",), ("both",), ("either",), (None,),
    ["list", ()], ("list", []), ("list", None), ("list", BAR), ("list", ([(2, 1), None],)),
    ("list", "x"), ("list", {}), ("list", (BAR,), (BAR,)), ("list", ALL), ("list", ALL, ALL),
    ("List", ()), ("lists", ()), ("", ()), (None, ()), (["list"], ()), (("list",), ()), (0, ()),
    ("both", ALL), ("either", ALL), ("both", ALL, ALL, ALL), ("either", ALL, ALL, ALL),
    ("both", (), ()), ("both", ALL, None), ("both", None, ALL), ("either", ALL, ["list", ()]),
    ("either", ("list", None), ALL), ["both", ALL, ALL], ("neither", ALL, ALL), (None, ALL, ALL),
    ("both", ("either", ALL, ALL), ("either", ALL, ("both", ALL, ("list", [])))),
] + [("list", (told,)) for told in NO_BARS] + [("list", (BAR, told)) for told in NO_BARS]


def all_orders(n):
    """All orders of n things, ascending, by putting each next thing everywhere."""
    if n == 1:
        return [(1,)]
    return sorted(
        order[:place] + (n,) + order[place:]
        for order in all_orders(n - 1) for place in range(n)
    )


def orders_up_to(n):
    return [order for many in range(1, n + 1) for order in all_orders(many)]


def jumps_by_trying(order):
    """A dict from each jump to the order behind it, by exchanging a thing with neighbour after neighbour."""
    found = {}
    for thing in order:
        for way in (-1, 1):
            things = list(order)
            place = things.index(thing)
            over = 0
            while 0 <= place + way < len(things) and things[place + way] < thing:
                things[place], things[place + way] = things[place + way], things[place]
                place += way
                over += way
                found[(thing, over)] = tuple(things)
    return found


def shows_by_trying(order, bar):
    pattern, near = bar
    for places in combinations(range(len(order)), len(pattern)):
        things = [order[place] for place in places]
        alike = all(
            (things[i] < things[j]) == (pattern[i] < pattern[j])
            for i in range(len(pattern)) for j in range(len(pattern))
        )
        if alike and (near is None or places[near] + 1 == places[near + 1]):
            return True
    return False


def means_by_trying(saying, order):
    if saying[0] == "list":
        return not any([shows_by_trying(order, bar) for bar in saying[1]])
    told = [means_by_trying(part, order) for part in saying[1:]]
    return all(told) if saying[0] == "both" else any(told)


def all_bars(longest):
    """All bars of patterns of at most so many things."""
    return [
        (pattern, near)
        for many in range(2, longest + 1)
        for pattern in all_orders(many)
        for near in [None, *range(many - 1)]
    ]


def some_sayings():
    """Sayings up to four deep, bars with and without near ones, empty lists too."""
    small = ("list", (((1, 3, 2), 0), ((3, 1, 2), None)))
    either = ("either", TREES, PARTINGS)
    both = ("both", TREES, ("list", (((3, 1, 2), 1),)))
    mixed = ("either", ("both", either, small), ("list", (((2, 4, 1, 3), None), ((3, 2, 1), 1))))
    return [
        ALL, TREES, PARTINGS, RISING, NONE_OF_TWO, small, either, both,
        ("both", PARTINGS, ALL), ("either", NONE_OF_TWO, RISING), ("both", NONE_OF_TWO, ALL),
        ("either", RISING, ("list", (((1, 2), None),))),
        ("both", ("either", RISING, TREES), ("either", both, small)),
        mixed,
        ("both", mixed, ("either", ("list", (((1, 2, 3), 1),)), ("both", either, ALL))),
        ("list", (((1, 2), 0), ((3, 2, 1), None), ((2, 1, 3), 1), ((3, 1, 4, 2), 1))),
    ]


def exactly(value):
    """A text that parts 1 from True and a tuple from a list, at every depth."""
    return repr(value)


class Case(unittest.TestCase):
    def assert_told(self, function, arguments, told):
        """Expect an answer, by position and by name, that leaves the arguments as they were."""
        before = deepcopy(arguments)
        self.assertEqual(exactly(function(*arguments.values())), exactly(told), arguments)
        self.assertEqual(exactly(function(**arguments)), exactly(told), arguments)
        self.assertEqual(exactly(arguments), exactly(before))

    def assert_error(self, function, arguments, kind, value):
        """Expect an error of this very class with this value, that leaves the arguments as they were."""
        before = deepcopy(arguments)
        for call in (lambda: function(*arguments.values()), lambda: function(**arguments)):
            with self.assertRaises(JumpError, msg=arguments) as caught:
                call()
            self.assertEqual(type(caught.exception).__name__, kind.__name__, arguments)
            self.assertIs(type(caught.exception), kind)
            self.assertEqual(exactly(caught.exception.value), exactly(value), arguments)
        self.assertEqual(exactly(arguments), exactly(before))

    def assert_new_list(self, function, *arguments):
        """Expect a new list at each call, so that what is done to one changes no other."""
        first = function(*arguments)
        self.assertIs(type(first), list)
        kept = list(first)
        second = function(*arguments)
        self.assertIsNot(first, second)
        first.reverse()
        first.append("strange")
        self.assertEqual(second, kept)
        self.assertEqual(function(*arguments), kept)
