import unittest

from onejumps.errors import InvalidBar, InvalidNumber, InvalidOrder, InvalidSaying, NotMeant
from onejumps.families import children, count, is_bar, is_saying, is_steady, means, members, shows
from tests.helping import NO_BARS, NO_INTEGERS, NO_ORDERS, NO_SAYINGS, Case
from tests.sayings import (
    ALL, NONE_OF_TWO, PARTINGS, RISING, TREES, deep_saying, doubled_saying, some_sayings, steady_sayings, wild_sayings,
)
from tests.trying import (
    all_bars, all_orders, is_steady_by_trying, means_by_trying, members_by_trying, orders_up_to, shows_by_trying,
)


class TestWhatIsABarAndASaying(Case):
    def test_bars_are(self):
        for bar in all_bars(4) + [((3, 1, 5, 2, 4), near) for near in (None, 0, 1, 2, 3)]:
            self.assert_told(is_bar, {"told": bar}, True)

    def test_others_are_no_bars(self):
        for told in NO_BARS:
            self.assert_told(is_bar, {"told": told}, False)

    def test_sayings_are(self):
        for saying in some_sayings():
            self.assert_told(is_saying, {"told": saying}, True)

    def test_a_saying_twelve_deep_is(self):
        saying = TREES
        for depth in range(12):
            saying = ("both", saying, ALL) if depth % 2 else ("either", NONE_OF_TWO, saying)
        for told in (saying, doubled_saying(TREES, 12)):
            self.assertIs(is_saying(told), True)
            self.assertIs(means(told, (2, 3, 1)), False)
            self.assertIs(means(told, (3, 1, 2)), True)

    def test_others_are_no_sayings(self):
        for told in NO_SAYINGS:
            self.assert_told(is_saying, {"told": told}, False)


class TestShows(Case):
    def test_all_bars_of_up_to_three_and_some_of_four(self):
        for bar in all_bars(3) + [((2, 4, 1, 3), near) for near in (None, 0, 1, 2)]:
            for order in orders_up_to(5):
                self.assertIs(shows(order, bar), shows_by_trying(order, bar), (order, bar))

    def test_bars_of_four_and_five(self):
        for order in [(2, 5, 1, 6, 3, 4), (6, 1, 5, 2, 4, 3), (3, 1, 6, 2, 5, 4), (1, 4, 2, 6, 5, 3)]:
            for bar in all_bars(4) + [((3, 1, 5, 2, 4), near) for near in (None, 0, 1, 2, 3)]:
                self.assertIs(shows(order, bar), shows_by_trying(order, bar), (order, bar))

    def test_near_ones_are_neighbours_by_place(self):
        self.assert_told(shows, {"order": (2, 4, 1, 3), "bar": ((1, 3, 2), None)}, True)
        self.assert_told(shows, {"order": (2, 4, 1, 3), "bar": ((1, 3, 2), 0)}, True)
        self.assert_told(shows, {"order": (2, 4, 1, 3), "bar": ((1, 3, 2), 1)}, False)
        self.assert_told(shows, {"order": (2, 1, 4, 3), "bar": ((1, 3, 2), 1)}, True)

    def test_a_longer_pattern_is_not_shown(self):
        self.assert_told(shows, {"order": (1,), "bar": ((1, 2), None)}, False)
        self.assert_told(shows, {"order": (1, 2), "bar": ((1, 2, 3), 0)}, False)

    def test_errors(self):
        for told in NO_ORDERS:
            self.assert_error(shows, {"order": told, "bar": ((2, 1), None)}, InvalidOrder, told)
            self.assert_error(shows, {"order": told, "bar": None}, InvalidOrder, told)
        for told in NO_BARS:
            self.assert_error(shows, {"order": (1, 2), "bar": told}, InvalidBar, told)


class TestMeans(Case):
    def test_by_trying(self):
        for saying in some_sayings():
            for order in orders_up_to(5):
                self.assertIs(means(saying, order), means_by_trying(saying, order), (saying, order))

    def test_arguments_by_position_and_by_name(self):
        for saying in some_sayings():
            for order in [(1,), (3, 1, 2)]:
                self.assert_told(means, {"saying": saying, "order": order}, means_by_trying(saying, order))

    def test_errors(self):
        for told in NO_SAYINGS:
            self.assert_error(means, {"saying": told, "order": (1,)}, InvalidSaying, told)
            self.assert_error(means, {"saying": told, "order": (1, 1)}, InvalidSaying, told)
        for told in NO_ORDERS:
            self.assert_error(means, {"saying": TREES, "order": told}, InvalidOrder, told)


class TestMembersAndCount(Case):
    def test_by_going_through_all_orders_of_up_to_six(self):
        for saying in some_sayings() + steady_sayings() + wild_sayings():
            for n in range(1, 7):
                told = members_by_trying(saying, n)
                self.assertEqual(members(saying, n), list(told), (saying, n))
                self.assertEqual(count(saying, n), len(told), (saying, n))

    def test_four_deep_with_bars_of_five(self):
        for words in [("both", "either"), ("either", "both"), ("both", "both")]:
            saying = deep_saying(words, False)
            for n in (5, 6):
                self.assertEqual(members(saying, n), list(members_by_trying(saying, n)), (words, n))

    def test_seven(self):
        saying = ("both", PARTINGS, ("list", (((2, 4, 1, 3), 0), ((3, 1, 2, 4, 5), None))))
        self.assertEqual(members(saying, 7), [order for order in all_orders(7) if means_by_trying(saying, order)])
        self.assertEqual(members(ALL, 7), list(all_orders(7)))
        self.assertEqual([count(saying, 7) for saying in (ALL, TREES, PARTINGS, RISING)], [5040, 429, 877, 1])

    def test_lists_of_all_and_of_none(self):
        self.assert_told(members, {"saying": ALL, "n": 3}, list(all_orders(3)))
        self.assert_told(members, {"saying": NONE_OF_TWO, "n": 1}, [(1,)])
        self.assert_told(members, {"saying": NONE_OF_TWO, "n": 2}, [])
        self.assert_told(count, {"saying": NONE_OF_TWO, "n": 4}, 0)
        self.assert_told(count, {"saying": ALL, "n": 4}, 24)

    def test_lists_are_new_at_each_call(self):
        for saying in (ALL, TREES, NONE_OF_TWO):
            for n in (1, 3):
                self.assert_new_list(members, saying, n)

    def test_parts_that_are_alike(self):
        for saying in (TREES, PARTINGS, ("either", RISING, ("both", TREES, PARTINGS))):
            told = list(members_by_trying(saying, 5))
            self.assertEqual(members(doubled_saying(saying, 12), 5), told)
            self.assertEqual(members(("both", ("either", saying, RISING), ("either", RISING, saying)), 5),
                             list(members_by_trying(("either", saying, RISING), 5)))

    def test_errors(self):
        for function in (members, count):
            for told in NO_SAYINGS:
                self.assert_error(function, {"saying": told, "n": 3}, InvalidSaying, told)
            for n in [0, -1, -7] + NO_INTEGERS:
                self.assert_error(function, {"saying": TREES, "n": n}, InvalidNumber, n)
            self.assert_error(function, {"saying": ("list",), "n": 0}, InvalidSaying, ("list",))


class TestChildren(Case):
    def test_by_trying(self):
        for saying in some_sayings() + wild_sayings():
            for order in orders_up_to(4):
                grown = [order[:place] + (len(order) + 1,) + order[place:] for place in range(len(order) + 1)]
                told = tuple(place for place, new in enumerate(grown) if means_by_trying(saying, new))
                if means_by_trying(saying, order):
                    self.assert_told(children, {"saying": saying, "order": order}, told)
                else:
                    self.assert_error(children, {"saying": saying, "order": order}, NotMeant, order)

    def test_steady_ones_have_place_0_and_the_last_one(self):
        for saying in steady_sayings():
            for n in range(1, 6):
                for order in members_by_trying(saying, n):
                    told = children(saying, order)
                    self.assertEqual((told[0], told[-1]), (0, n), (saying, order))
                    self.assertEqual(list(told), sorted(set(told)))

    def test_none(self):
        self.assert_told(children, {"saying": NONE_OF_TWO, "order": (1,)}, ())

    def test_an_order_of_twelve(self):
        order = (12, 11, 3, 1, 2, 10, 9, 4, 6, 8, 7, 5)
        self.assert_told(children, {"saying": ALL, "order": order}, tuple(range(13)))
        self.assert_told(children, {"saying": TREES, "order": tuple(range(1, 13))}, tuple(range(13)))
        self.assert_told(children, {"saying": TREES, "order": tuple(range(12, 0, -1))}, (0, 12))

    def test_errors(self):
        for told in NO_SAYINGS:
            self.assert_error(children, {"saying": told, "order": (1,)}, InvalidSaying, told)
            self.assert_error(children, {"saying": told, "order": (1, 1)}, InvalidSaying, told)
        for told in NO_ORDERS:
            self.assert_error(children, {"saying": TREES, "order": told}, InvalidOrder, told)
        self.assert_error(children, {"saying": TREES, "order": (2, 3, 1)}, NotMeant, (2, 3, 1))


class TestIsSteady(Case):
    def test_each_bar_alone_and_within(self):
        for bar in all_bars(5):
            told = is_steady_by_trying(bar)
            self.assertIs(is_steady(("list", (bar,))), told, bar)
            self.assertIs(is_steady(("list", (((1, 3, 2), None), bar, ((2, 3, 1), 0)))), told, bar)
            self.assertIs(is_steady(("both", TREES, ("either", ("list", (bar,)), PARTINGS))), told, bar)

    def test_sayings(self):
        for saying in steady_sayings() + [deep_saying(("both", "either"), True), doubled_saying(TREES, 12)]:
            self.assert_told(is_steady, {"saying": saying}, True)
        for saying in wild_sayings() + [deep_saying(("either", "both"), False), doubled_saying(RISING, 12)]:
            self.assert_told(is_steady, {"saying": saying}, False)

    def test_one_bar_that_is_not(self):
        self.assert_told(is_steady, {"saying": ("both", ("either", TREES, RISING), PARTINGS)}, False)
        self.assert_told(is_steady, {"saying": ("both", PARTINGS, ("either", TREES, RISING))}, False)
        self.assert_told(is_steady, {"saying": ("list", (((2, 4, 1, 3), 1), ((2, 4, 1, 3), 2)))}, False)

    def test_errors(self):
        for told in NO_SAYINGS:
            self.assert_error(is_steady, {"saying": told}, InvalidSaying, told)


class TestExample(Case):
    def test_of_the_section(self):
        self.assertEqual(
            [means(TREES, (2, 3, 1)), shows((2, 4, 1, 3), ((1, 3, 2), 1)), children(TREES, (2, 1)),
             count(TREES, 5), count(PARTINGS, 5)],
            [False, False, (0, 2), 42, 52],
        )
        self.assertEqual(
            [is_steady(PARTINGS), is_steady(("list", (((1, 3, 2), 0), ((2, 1), None))))],
            [True, False],
        )


if __name__ == "__main__":
    unittest.main()
