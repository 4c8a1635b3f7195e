import unittest

from onejumps import errors
from onejumps.errors import JumpError

NAMES = [
    "InvalidOrder", "InvalidPlace", "InvalidJump", "InvalidBar", "InvalidSaying", "InvalidNumber",
    "InvalidPair", "InvalidWalk", "NotMeant", "NotTame", "InvalidKind", "InvalidThing", "InvalidWeb",
    "InvalidPrices", "HasRound", "InvalidName", "UnknownName", "NothingToUndo", "Unreadable", "Unorderly",
]
CLASSES = [getattr(errors, name) for name in NAMES]
VALUES = [0, -7, 10 ** 30, "", "a text", True, False, None, (), (1, (2, [3])), [], [1, [2]]]


class TestErrors(unittest.TestCase):
    def test_twenty_classes_each_right_below_jump_error(self):
        self.assertEqual(len(set(CLASSES)), 20)
        for kind in CLASSES:
            self.assertEqual(kind.__bases__, (JumpError,))
        self.assertEqual(JumpError.__bases__, (ValueError,))

    def test_each_is_caught_as_jump_error_and_as_value_error(self):
        for kind in CLASSES + [JumpError]:
            for caught_as in (kind, JumpError, ValueError):
                with self.assertRaises(caught_as) as caught:
                    raise kind(3)
                self.assertIs(type(caught.exception), kind)

    def test_each_is_of_no_other_of_the_twenty(self):
        for kind in CLASSES:
            made = kind(1)
            self.assertEqual([other for other in CLASSES if isinstance(made, other)], [kind])
        self.assertEqual([other for other in CLASSES if isinstance(JumpError(1), other)], [])

    def test_value_is_what_it_was_made_with(self):
        for kind in CLASSES + [JumpError]:
            for value in VALUES:
                self.assertIs(kind(value).value, value)
                self.assertIs(kind(value=value).value, value)

    def test_one_argument_no_more_and_no_less(self):
        for kind in CLASSES + [JumpError]:
            for arguments, named in [((), {}), ((1, 2), {}), ((1,), {"value": 2}), ((), {"told": 1})]:
                with self.assertRaises(TypeError):
                    kind(*arguments, **named)

    def test_an_object_made_between_changes_nothing(self):
        for kind in CLASSES + [JumpError]:
            one = kind("one")
            others = [other(value) for other in CLASSES + [JumpError] for value in VALUES]
            self.assertEqual(one.value, "one")
            others[0].value = "changed"
            self.assertEqual(one.value, "one")
            self.assertFalse(hasattr(kind, "value"))


if __name__ == "__main__":
    unittest.main()
