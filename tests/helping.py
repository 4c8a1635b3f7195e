"""What the tests share: strange values, and a case that looks at answers and errors closely."""

import unittest
from copy import deepcopy
from itertools import product

from onejumps.errors import JumpError
from tests.sayings import ALL

NO_INTEGERS = [None, True, False, "1", "", b"\x01", [1], (1,), {1: 1}]

NO_ORDERS = [
    None, True, False, 0, 1, "", "1", "12", b"\x01", [], [1], [1, 2], {1: 2}, {1, 2},
    (), (0,), (2,), (-1,), (1, 1), (1, 3), (0, 1), (2, 3), (1, 2, 2), (1, 2, 4), (-1, 1, 2),
    (True,), (True, 2), (2, True), (False, 1), (None,), (1, None), (1, "2"), ("1", "2"),
    ([1],), (1, [2]), ((1, 2),), ((1,), (2,)), (1, (2,)), (1, {2: 2}),
]

NO_BARS = [
    None, True, 0, "", "21", [], (), (2, 1), ((2, 1),), ((2, 1), None, None),
    [(2, 1), None], ([2, 1], None), ("21", None), ((1,), None), ((), None), ((1, 1), None),
    ((1, 3), None), ((True, 2), None), ((1,), 0), (None, None), (None, 0),
    ((2, 1), 1), ((2, 1), -1), ((2, 1), 2), ((2, 1), True), ((2, 1), False), ((2, 1), "0"),
    ((2, 1), ()), ((2, 1), [0]), ((2, 1), (0,)), ((1, 3, 2), 2), ((1, 3, 2), True), ((1, 3, 2), "None"),
]

BAR = ((2, 1), None)

NO_SAYINGS = [
    None, True, 0, "", "list", b"list", [], (), ("list",), ("both",), ("either",), (None,),
    ["list", ()], ("list", []), ("list", None), ("list", BAR), ("list", ([(2, 1), None],)),
    ("list", "x"), ("list", {}), ("list", (BAR,), (BAR,)), ("list", ALL), ("list", ALL, ALL),
    ("List", ()), ("lists", ()), ("", ()), (None, ()), (["list"], ()), (("list",), ()), (0, ()),
    ("both", ALL), ("either", ALL), ("both", ALL, ALL, ALL), ("either", ALL, ALL, ALL),
    ("both", (), ()), ("both", ALL, None), ("both", None, ALL), ("either", ALL, ["list", ()]),
    ("either", ("list", None), ALL), ["both", ALL, ALL], ("neither", ALL, ALL), (None, ALL, ALL),
    ("both", ("either", ALL, ALL), ("either", ALL, ("both", ALL, ("list", [])))),
] + [("list", (told,)) for told in NO_BARS] + [("list", (BAR, told)) for told in NO_BARS]


NO_KINDS = [None, True, 0, b"signs", "", "sign", "Signs", "signs ", "webs", ["signs"], ("signs",), {"signs": 1}]

NO_COUNTS = [0, -1, -6] + NO_INTEGERS


def exactly(value):
    """A text that parts 1 from True and a tuple from a list, at every depth."""
    return repr(value)


def bent(value):
    """Values nearly like one of tuples, integers and texts, each bent at one place, at whatever depth."""
    if isinstance(value, tuple):
        told = [list(value), (value,), value + ((),), value + (0,), None, 0]
        told += [value[:k] + value[k + 1:] for k in range(len(value))]
        told += [value[:k] + value[k:k + 1] + value[k:] for k in range(len(value))]
        told += [value[:k] + value[k + 1:k + 2] + value[k:k + 1] + value[k + 2:] for k in range(len(value) - 1)]
        for k, part in enumerate(value):
            told += [value[:k] + (other,) + value[k + 1:] for other in bent(part)]
        return told
    if isinstance(value, int):
        return [value - 1, value + 1, -value, bool(value), str(value), float(value), None, (value,), [value], ()]
    return [None, value + " ", value[:-1], (value,), value.encode(), 1]


class Case(unittest.TestCase):
    def assert_told(self, function, arguments, told):
        """Expect an answer, by position and by name, that leaves the arguments as they were."""
        before = deepcopy(arguments)
        self.assertEqual(exactly(function(*arguments.values())), exactly(told), arguments)
        self.assertEqual(exactly(function(**arguments)), exactly(told), arguments)
        self.assertEqual(exactly(arguments), exactly(before))

    def assert_error(self, function, arguments, kind, value):
        """Expect an error of this very class with this value, that leaves the arguments as they were."""
        before = deepcopy(arguments)
        for call in (lambda: function(*arguments.values()), lambda: function(**arguments)):
            with self.assertRaises(JumpError, msg=arguments) as caught:
                call()
            self.assertEqual(type(caught.exception).__name__, kind.__name__, arguments)
            self.assertIs(type(caught.exception), kind)
            self.assertEqual(exactly(caught.exception.value), exactly(value), arguments)
        self.assertEqual(exactly(arguments), exactly(before))

    def assert_due(self, function, right, faults):
        """Expect, of wrong arguments in all combinations, the error that is due first.

        Faults are (name, value, kind, told): an argument, wrong by this value, and the error that it is wrong by,
        in the sequence in which they are due.
        """
        choices = [
            [None] + [at for at, fault in enumerate(faults) if fault[0] == name] for name in right
        ]
        for chosen in product(*choices):
            wrong = [at for at in chosen if at is not None]
            if wrong:
                arguments = {**right, **{faults[at][0]: faults[at][1] for at in wrong}}
                _, _, kind, told = faults[min(wrong)]
                self.assert_error(function, arguments, kind, told)

    def assert_unchanged_by_refused(self, function, arguments, refused):
        """Expect the same answer behind each refused call, of pairs of a function and its arguments."""
        told = exactly(function(*arguments))
        for other, wrong in refused:
            with self.assertRaises(JumpError):
                other(*wrong)
            self.assertEqual(exactly(function(*arguments)), told)

    def assert_new_list(self, function, *arguments):
        """Expect a new list at each call, so that what is done to one changes no other."""
        first = function(*arguments)
        self.assertIs(type(first), list)
        kept = list(first)
        second = function(*arguments)
        self.assertIsNot(first, second)
        first.reverse()
        first.append("strange")
        self.assertEqual(second, kept)
        self.assertEqual(function(*arguments), kept)
