import unittest
from itertools import product

from onejumps.errors import InvalidKind, Unreadable
from onejumps.readers import read_bar, read_jump, read_order, read_saying, read_thing
from onejumps.texts import show_bar, show_jump, show_order, show_saying, show_thing
from tests.helping import NO_KINDS, Case, exactly
from tests.sayings import ALL, NONE_OF_TWO, PARTINGS, TREES, deep_saying, doubled_saying, some_sayings
from tests.trying import all_bars, orders_up_to
from tests.trying_kinds import KINDS, all_things
from tests.trying_texts import (
    bar_by_pattern, bar_text, bent_texts, expected, jump_by_pattern, order_by_pattern, order_text, saying_by_pattern,
    saying_text, thing_by_pattern, thing_text,
)

FORTY = tuple(range(2, 41, 2)) + tuple(range(39, 0, -2))


def texts_of(signs, most):
    """All texts of at most so many of the signs."""
    return ["".join(chosen) for many in range(most + 1) for chosen in product(signs, repeat=many)]


def things_of_forty():
    spiral = ((), ())
    for k in range(39):
        spiral = ((), spiral) if k % 2 else (spiral, ())
    corners = [0, 41]
    zigzag = []
    while corners[1] - corners[0] > 2:
        corners[len(zigzag) % 2] += 1 if len(zigzag) % 2 == 0 else -1
        zigzag.append(tuple(corners))
    return {
        "signs": [(0, 1, 1) * 13, (1,) * 39], "trees": [spiral],
        "partings": [tuple((k, k + 20) for k in range(1, 21)), tuple((k,) for k in range(1, 41)), (tuple(range(1, 41)),)],
        "polygons": [tuple((0, k) for k in range(2, 41)), tuple(sorted(zigzag))],
    }


class ReaderCase(Case):
    def assert_read(self, function, arguments, told, refused):
        """Expect a value, or a refusal by this number if it is not 0."""
        if refused:
            self.assert_error(function, arguments, Unreadable, refused)
        else:
            self.assert_told(function, arguments, told)

    def assert_as(self, function, pattern, texts):
        for text in texts:
            self.assert_read(function, {"text": text}, *expected(pattern, text))

    def assert_things_as(self, kind, texts):
        for text in texts:
            told = expected(lambda line: thing_by_pattern(kind, line), text)
            self.assert_read(read_thing, {"kind": kind, "text": text}, *told)


class TestThereAndBack(ReaderCase):
    def test_orders(self):
        for order in orders_up_to(5) + [tuple(range(1, 41)), FORTY, FORTY[::-1]]:
            self.assert_told(read_order, {"text": order_text(order)}, order)
            self.assertEqual(read_order(show_order(order)), order)

    def test_jumps(self):
        for thing in (2, 3, 9, 10, 40, 999999999):
            for over in (-999999999, -40, -1, 1, 2, 10, 123456789):
                self.assert_told(read_jump, {"text": f"{thing} {over}"}, (thing, over))
                self.assertEqual(read_jump(show_jump((thing, over))), (thing, over))

    def test_bars(self):
        for bar in all_bars(4) + [(FORTY, near) for near in (None, 0, 7, 38)]:
            self.assert_told(read_bar, {"text": bar_text(bar)}, bar)
            self.assertEqual(read_bar(show_bar(bar)), bar)

    def test_sayings(self):
        deep = TREES
        for depth in range(12):
            deep = ("both", deep, ALL) if depth % 2 else ("either", PARTINGS, deep)
        twenty = ("list", tuple(all_bars(4)[::5][:20]))
        self.assertEqual(len(twenty[1]), 20)
        for saying in some_sayings() + [deep, twenty, deep_saying(("both", "either"), False)]:
            self.assert_told(read_saying, {"text": saying_text(saying)}, saying)
            self.assertEqual(read_saying(show_saying(saying)), saying)
        for saying in (doubled_saying(TREES, 12), doubled_saying(("list", ((FORTY, 3), (FORTY, None))), 8)):
            self.assertEqual(read_saying(show_saying(saying)), saying)

    def test_things(self):
        for kind in KINDS:
            for n in range(1, 7):
                for thing in all_things(kind, n):
                    told = read_thing(kind, thing_text(kind, thing))
                    self.assertEqual(exactly(told), exactly(thing))
                    self.assertEqual(exactly(read_thing(kind, show_thing(kind, thing))), exactly(thing))
            for thing in things_of_forty()[kind]:
                self.assert_told(read_thing, {"kind": kind, "text": thing_text(kind, thing)}, thing)
                self.assertEqual(read_thing(kind, show_thing(kind, thing)), thing)


class TestAllShortTexts(ReaderCase):
    def test_orders_and_jumps(self):
        texts = texts_of(" 1203-", 4) + texts_of("12 \n", 5)
        self.assert_as(read_order, order_by_pattern, texts)
        self.assert_as(read_jump, jump_by_pattern, texts)

    def test_bars(self):
        self.assert_as(read_bar, bar_by_pattern, texts_of("12 *\n", 5) + texts_of("123* ", 5))

    def test_things(self):
        self.assert_things_as("signs", texts_of("012-\n ", 4))
        self.assert_things_as("partings", texts_of("12/ ", 5) + texts_of("12\n", 4))
        self.assert_things_as("trees", texts_of("(.)", 7) + texts_of("(.)\n", 5))
        self.assert_things_as("polygons", texts_of("0123- ", 3) + texts_of("02-\n", 4) + texts_of("0123-", 4))

    def test_sayings_of_few_parts(self):
        parts = ["(list [-])", "(list [2 1])", "(both ", "(either ", ")", " ", "(list [", "])", "-", "\n"]
        self.assert_as(read_saying, saying_by_pattern, ["".join(told) for told in product(parts, repeat=3)])
        some = ["(list [-])", "(both ", " ", ")"]
        self.assert_as(read_saying, saying_by_pattern, ["".join(told) for told in product(some, repeat=6)])


class TestBentTexts(ReaderCase):
    def test_orders(self):
        for order in [(1,), (2, 1), (3, 1, 2), tuple(range(1, 12))]:
            self.assert_as(read_order, order_by_pattern, bent_texts(order_text(order)))

    def test_jumps(self):
        for text in ["3 -2", "2 1", "12 -10", "999999999 -999999999"]:
            self.assert_as(read_jump, jump_by_pattern, bent_texts(text))

    def test_bars(self):
        for bar in [((2, 1), None), ((2, 1), 0), ((1, 3, 2), 1), ((10, 1, 2, 3, 4, 5, 6, 7, 8, 9), 0)]:
            self.assert_as(read_bar, bar_by_pattern, bent_texts(bar_text(bar)))

    def test_sayings(self):
        for saying in [
            ALL, TREES, NONE_OF_TWO, ("list", (((1, 3, 2), 1), ((2, 1), None))), ("both", ALL, PARTINGS),
            ("either", ("both", ALL, TREES), ("list", (((1, 2), 0),))),
        ]:
            self.assert_as(read_saying, saying_by_pattern, bent_texts(saying_text(saying), " 01()[],*-\nblt"))

    def test_things(self):
        for kind in KINDS:
            for n in (1, 2, 3, 4):
                for thing in all_things(kind, n)[::4]:
                    self.assert_things_as(kind, bent_texts(thing_text(kind, thing)))

    def test_things_of_forty(self):
        for kind in KINDS:
            for thing in things_of_forty()[kind]:
                text = thing_text(kind, thing)
                for bent in bent_texts(text, " 1.-")[::7]:
                    told = expected(lambda line: thing_by_pattern(kind, line), bent)
                    self.assert_read(read_thing, {"kind": kind, "text": bent}, *told)


class TestNumbers(ReaderCase):
    def test_nine_digits_and_ten(self):
        self.assert_told(read_jump, {"text": "123456789 -987654321"}, (123456789, -987654321))
        for text in ["1234567890 1", "2 1234567890", "2 -1234567890", "2 1000000000", "1000000000 1", "2 0000000001"]:
            self.assert_error(read_jump, {"text": text}, Unreadable, 1)
        self.assert_error(read_order, {"text": "0000000001"}, Unreadable, 1)
        self.assert_error(read_order, {"text": "1" * 5000}, Unreadable, 1)

    def test_needless_signs_and_noughts(self):
        for text in ["+2 1", "2 +1", "02 1", "2 01", "2 -01", "2 --1", "2 -0", "2 0", "-2 1", "1 1", "0 1", "2 - 1", "2 1.0"]:
            self.assert_error(read_jump, {"text": text}, Unreadable, 1)
        for text in ["01", "+1", "1 02", "-1", "1_0", "1 2 3 4 5 6 7 8 9 1_0", "1e0"]:
            self.assert_error(read_order, {"text": text}, Unreadable, 1)


class TestLines(ReaderCase):
    def test_more_of_them(self):
        right = [
            (read_order, {"text": "2 1"}), (read_jump, {"text": "2 -1"}), (read_bar, {"text": "2*1"}),
            (read_saying, {"text": "(list [-])"}), (read_thing, {"kind": "signs", "text": "-"}),
            (read_thing, {"kind": "partings", "text": "1 / 2"}), (read_thing, {"kind": "trees", "text": "(..)"}),
            (read_thing, {"kind": "polygons", "text": "0-2"}),
        ]
        for function, told in right:
            for more in ["\n", "\n\n", "\n" + told["text"], "\nx", "\n ", "\n1"]:
                self.assert_error(function, {**told, "text": told["text"] + more}, Unreadable, 2)
            for wrong in ["x", told["text"] + " ", "", " " + told["text"], told["text"] + "\r"]:
                self.assert_error(function, {**told, "text": wrong}, Unreadable, 1)
                self.assert_error(function, {**told, "text": wrong + "\n" + told["text"]}, Unreadable, 1)


class TestSayingsThatAreNone(ReaderCase):
    def test_texts(self):
        for text in [
            "list", "(list)", "(list )", "(list [])", "(list -)", "(list [-, -])", "(list [2 1], [1 2])", "(list [2 1,1 2])",
            "(list [2 1 , 1 2])", "(list [2 1, ])", "(list [, 2 1])", "(list [2 1, -])", "(list [1])", "(list [2*1*3])",
            "(List [-])", "(list  [-])", "( list [-])", "(list [-] )", "((list [-]))", "(list [-]))", "[list [-]]",
            "(both (list [-]))", "(both (list [-]) (list [-]) (list [-]))", "(both (list [-])  (list [-]))",
            "(both (list [-])(list [-]))", "(neither (list [-]) (list [-]))", "(both)", "(both )", "(both - -)",
            "(list [-]) (list [-])", "(both (list [-]) (list [-])", "(both (list [-]) (list [-]) )", "(list [2 2])",
            "(list [2 1]) ", " (list [2 1])", "(list [1 3**2])", "(list [1 3 *2])", "(list [*1 2])", "(list [1 2*])",
        ]:
            self.assert_error(read_saying, {"text": text}, Unreadable, 1)

    def test_very_many_brackets(self):
        for text in ["(both " * 20000, "(" * 20000, "(both (list [-]) " * 20000, "(list [-])" + ")" * 20000]:
            self.assert_error(read_saying, {"text": text}, Unreadable, 1)
        for text in ["(" * 20000, "(." * 20000, "(" * 20000 + "." * 20001 + ")" * 19999, "." * 20000, "(..)" * 20000]:
            self.assert_error(read_thing, {"kind": "trees", "text": text}, Unreadable, 1)


class TestKinds(ReaderCase):
    def test_no_kinds(self):
        for kind in NO_KINDS:
            for text in ["-", "", "x", "(..)\n"]:
                self.assert_error(read_thing, {"kind": kind, "text": text}, InvalidKind, kind)

    def test_a_text_of_one_kind_is_none_of_another(self):
        right = {"signs": "01", "partings": "1 3 / 2", "trees": "(.(..))", "polygons": "0-2 0-3"}
        for kind in KINDS:
            for other in KINDS:
                if kind != other:
                    self.assert_error(read_thing, {"kind": kind, "text": right[other]}, Unreadable, 1)

    def test_the_tree_of_none_stands_within_others_alone(self):
        self.assert_error(read_thing, {"kind": "trees", "text": "."}, Unreadable, 1)
        self.assert_error(read_thing, {"kind": "trees", "text": ".\n"}, Unreadable, 1)


if __name__ == "__main__":
    unittest.main()
