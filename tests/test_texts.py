import unittest

from onejumps.texts import show_bar, show_jump, show_order, show_saying, show_thing
from tests.helping import Case
from tests.sayings import ALL, PARTINGS, TREES, some_sayings, steady_sayings
from tests.trying import all_bars, jumps_by_trying, orders_up_to
from tests.trying_kinds import KINDS, all_things
from tests.trying_texts import bar_text, order_text, saying_text, thing_text


class TestTexts(Case):
    def test_orders(self):
        for order in orders_up_to(5):
            self.assertEqual(show_order(order), order_text(order))
        self.assert_told(show_order, {"order": (1,)}, "1")
        self.assert_told(show_order, {"order": (3, 1, 2)}, "3 1 2")
        self.assert_told(show_order, {"order": tuple(range(40, 0, -1))}, " ".join(map(str, range(40, 0, -1))))

    def test_jumps(self):
        for order in orders_up_to(4):
            for thing, over in jumps_by_trying(order):
                self.assertEqual(show_jump((thing, over)), str(thing) + " " + str(over))
        self.assert_told(show_jump, {"jump": (3, -2)}, "3 -2")
        self.assert_told(show_jump, {"jump": (12, 11)}, "12 11")

    def test_bars(self):
        for bar in all_bars(5):
            self.assertEqual(show_bar(bar), bar_text(bar))
        for bar, text in [
            (((2, 1), None), "2 1"), (((2, 1), 0), "2*1"), (((1, 3, 2), 0), "1*3 2"), (((2, 4, 1, 3), 2), "2 4 1*3"),
            ((tuple(range(1, 13)), 10), "1 2 3 4 5 6 7 8 9 10 11*12"),
        ]:
            self.assert_told(show_bar, {"bar": bar}, text)

    def test_sayings(self):
        for saying in some_sayings() + steady_sayings():
            self.assertEqual(show_saying(saying), saying_text(saying))
        for saying, text in [
            (ALL, "(list [-])"), (TREES, "(list [2 3 1])"), (("list", (((2, 3, 1), None), ((1, 2), 0))), "(list [2 3 1, 1*2])"),
            (("both", TREES, ALL), "(both (list [2 3 1]) (list [-]))"),
            (("either", PARTINGS, ("both", ALL, TREES)), "(either (list [1 3*2]) (both (list [-]) (list [2 3 1])))"),
            (("list", (((2, 1), None), ((2, 1), None))), "(list [2 1, 2 1])"),
        ]:
            self.assert_told(show_saying, {"saying": saying}, text)

    def test_things(self):
        for kind in KINDS:
            for n in range(1, 7):
                for thing in all_things(kind, n):
                    self.assertEqual(show_thing(kind, thing), thing_text(kind, thing))
        for kind, thing, text in [
            ("signs", (), "-"), ("signs", (0,), "0"), ("signs", (1, 0, 0), "100"), ("partings", ((1,),), "1"),
            ("partings", ((1,), (2, 3)), "1 / 2 3"), ("partings", ((1, 2, 3),), "1 2 3"),
            ("partings", (tuple(range(1, 11)), (11,)), "1 2 3 4 5 6 7 8 9 10 / 11"), ("trees", ((), ()), "(..)"),
            ("trees", (((), ()), ((), ())), "((..)(..))"), ("polygons", (), "-"), ("polygons", ((0, 2),), "0-2"),
            ("polygons", ((0, 2), (0, 3)), "0-2 0-3"),
        ]:
            self.assert_told(show_thing, {"kind": kind, "thing": thing}, text)

    def test_texts_stand_on_one_line_without_needless_blanks(self):
        told = [show_saying(saying) for saying in some_sayings()]
        told += [show_thing(kind, thing) for kind in KINDS for n in range(1, 5) for thing in all_things(kind, n)]
        for text in told:
            self.assertEqual(" ".join(text.split()), text)

    def test_example_of_the_section(self):
        self.assertEqual(
            [show_bar(((1, 3, 2), 1)), show_saying(PARTINGS), show_thing("trees", ((), ((), ()))),
             show_thing("partings", ((1, 3), (2,)))],
            ["1 3*2", "(list [1 3*2])", "(.(..))", "1 3 / 2"],
        )


if __name__ == "__main__":
    unittest.main()
