"""What the tests share: strange values, and a case that looks at answers and errors closely."""

import unittest
from copy import deepcopy

from onejumps.errors import JumpError
from tests.sayings import ALL

NO_INTEGERS = [None, True, False, "1", "", b"\x01", [1], (1,), {1: 1}]

NO_ORDERS = [
    None, True, False, 0, 1, "", "1", "12", b"\x01", [], [1], [1, 2], {1: 2}, {1, 2},
    (), (0,), (2,), (-1,), (1, 1), (1, 3), (0, 1), (2, 3), (1, 2, 2), (1, 2, 4), (-1, 1, 2),
    (True,), (True, 2), (2, True), (False, 1), (None,), (1, None), (1, "2"), ("1", "2"),
    ([1],), (1, [2]), ((1, 2),), ((1,), (2,)), (1, (2,)), (1, {2: 2}),
]

NO_BARS = [
    None, True, 0, "", "21", [], (), (2, 1), ((2, 1),), ((2, 1), None, None),
    [(2, 1), None], ([2, 1], None), ("21", None), ((1,), None), ((), None), ((1, 1), None),
    ((1, 3), None), ((True, 2), None), ((1,), 0), (None, None), (None, 0),
    ((2, 1), 1), ((2, 1), -1), ((2, 1), 2), ((2, 1), True), ((2, 1), False), ((2, 1), "0"),
    ((2, 1), ()), ((2, 1), [0]), ((2, 1), (0,)), ((1, 3, 2), 2), ((1, 3, 2), True), ((1, 3, 2), "None"),
]

BAR = ((2, 1), None)

NO_SAYINGS = [
    None, True, 0, "", "list", b"list", [], (), ("list",), ("both",), ("either",), (None,),
    ["list", ()], ("list", []), ("list", None), ("list", BAR), ("list", ([(2, 1), None],)),
    ("list", "x"), ("list", {}), ("list", (BAR,), (BAR,)), ("list", ALL), ("list", ALL, ALL),
    ("List", ()), ("lists", ()), ("", ()), (None, ()), (["list"], ()), (("list",), ()), (0, ()),
    ("both", ALL), ("either", ALL), ("both", ALL, ALL, ALL), ("either", ALL, ALL, ALL),
    ("both", (), ()), ("both", ALL, None), ("both", None, ALL), ("either", ALL, ["list", ()]),
    ("either", ("list", None), ALL), ["both", ALL, ALL], ("neither", ALL, ALL), (None, ALL, ALL),
    ("both", ("either", ALL, ALL), ("either", ALL, ("both", ALL, ("list", [])))),
] + [("list", (told,)) for told in NO_BARS] + [("list", (BAR, told)) for told in NO_BARS]


def exactly(value):
    """A text that parts 1 from True and a tuple from a list, at every depth."""
    return repr(value)


class Case(unittest.TestCase):
    def assert_told(self, function, arguments, told):
        """Expect an answer, by position and by name, that leaves the arguments as they were."""
        before = deepcopy(arguments)
        self.assertEqual(exactly(function(*arguments.values())), exactly(told), arguments)
        self.assertEqual(exactly(function(**arguments)), exactly(told), arguments)
        self.assertEqual(exactly(arguments), exactly(before))

    def assert_error(self, function, arguments, kind, value):
        """Expect an error of this very class with this value, that leaves the arguments as they were."""
        before = deepcopy(arguments)
        for call in (lambda: function(*arguments.values()), lambda: function(**arguments)):
            with self.assertRaises(JumpError, msg=arguments) as caught:
                call()
            self.assertEqual(type(caught.exception).__name__, kind.__name__, arguments)
            self.assertIs(type(caught.exception), kind)
            self.assertEqual(exactly(caught.exception.value), exactly(value), arguments)
        self.assertEqual(exactly(arguments), exactly(before))

    def assert_new_list(self, function, *arguments):
        """Expect a new list at each call, so that what is done to one changes no other."""
        first = function(*arguments)
        self.assertIs(type(first), list)
        kept = list(first)
        second = function(*arguments)
        self.assertIsNot(first, second)
        first.reverse()
        first.append("strange")
        self.assertEqual(second, kept)
        self.assertEqual(function(*arguments), kept)
