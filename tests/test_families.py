import unittest

from onejumps.errors import InvalidBar, InvalidOrder, InvalidSaying
from onejumps.families import is_bar, is_saying, means, shows
from tests.helping import (
    ALL, NO_BARS, NO_ORDERS, NO_SAYINGS, NONE_OF_TWO, PARTINGS, TREES,
    Case, all_bars, means_by_trying, orders_up_to, shows_by_trying, some_sayings,
)


class TestWhatIsABarAndASaying(Case):
    def test_bars_are(self):
        for bar in all_bars(4) + [((3, 1, 5, 2, 4), near) for near in (None, 0, 1, 2, 3)]:
            self.assert_told(is_bar, {"told": bar}, True)

    def test_others_are_no_bars(self):
        for told in NO_BARS:
            self.assert_told(is_bar, {"told": told}, False)

    def test_sayings_are(self):
        for saying in some_sayings():
            self.assert_told(is_saying, {"told": saying}, True)

    def test_a_saying_twelve_deep_is(self):
        saying = TREES
        for depth in range(12):
            saying = ("both", saying, ALL) if depth % 2 else ("either", NONE_OF_TWO, saying)
        self.assertIs(is_saying(saying), True)
        self.assertIs(means(saying, (2, 3, 1)), False)
        self.assertIs(means(saying, (3, 1, 2)), True)

    def test_others_are_no_sayings(self):
        for told in NO_SAYINGS:
            self.assert_told(is_saying, {"told": told}, False)


class TestShows(Case):
    def test_all_bars_of_up_to_three_and_some_of_four(self):
        for bar in all_bars(3) + [((2, 4, 1, 3), near) for near in (None, 0, 1, 2)]:
            for order in orders_up_to(5):
                self.assertIs(shows(order, bar), shows_by_trying(order, bar), (order, bar))

    def test_bars_of_four_and_five(self):
        for order in [(2, 5, 1, 6, 3, 4), (6, 1, 5, 2, 4, 3), (3, 1, 6, 2, 5, 4), (1, 4, 2, 6, 5, 3)]:
            for bar in all_bars(4) + [((3, 1, 5, 2, 4), near) for near in (None, 0, 1, 2, 3)]:
                self.assertIs(shows(order, bar), shows_by_trying(order, bar), (order, bar))

    def test_near_ones_are_neighbours_by_place(self):
        self.assert_told(shows, {"order": (2, 4, 1, 3), "bar": ((1, 3, 2), None)}, True)
        self.assert_told(shows, {"order": (2, 4, 1, 3), "bar": ((1, 3, 2), 0)}, True)
        self.assert_told(shows, {"order": (2, 4, 1, 3), "bar": ((1, 3, 2), 1)}, False)
        self.assert_told(shows, {"order": (2, 1, 4, 3), "bar": ((1, 3, 2), 1)}, True)

    def test_a_longer_pattern_is_not_shown(self):
        self.assert_told(shows, {"order": (1,), "bar": ((1, 2), None)}, False)
        self.assert_told(shows, {"order": (1, 2), "bar": ((1, 2, 3), 0)}, False)

    def test_errors(self):
        for told in NO_ORDERS:
            self.assert_error(shows, {"order": told, "bar": ((2, 1), None)}, InvalidOrder, told)
            self.assert_error(shows, {"order": told, "bar": None}, InvalidOrder, told)
        for told in NO_BARS:
            self.assert_error(shows, {"order": (1, 2), "bar": told}, InvalidBar, told)


class TestMeans(Case):
    def test_by_trying(self):
        for saying in some_sayings():
            for order in orders_up_to(5):
                self.assertIs(means(saying, order), means_by_trying(saying, order), (saying, order))

    def test_arguments_by_position_and_by_name(self):
        for saying in some_sayings():
            for order in [(1,), (3, 1, 2)]:
                self.assert_told(means, {"saying": saying, "order": order}, means_by_trying(saying, order))

    def test_errors(self):
        for told in NO_SAYINGS:
            self.assert_error(means, {"saying": told, "order": (1,)}, InvalidSaying, told)
            self.assert_error(means, {"saying": told, "order": (1, 1)}, InvalidSaying, told)
        for told in NO_ORDERS:
            self.assert_error(means, {"saying": TREES, "order": told}, InvalidOrder, told)


class TestExample(Case):
    def test_of_the_section(self):
        self.assertEqual([means(TREES, (2, 3, 1)), shows((2, 4, 1, 3), ((1, 3, 2), 1))], [False, False])
        self.assertEqual([sum(means(saying, order) for order in orders_up_to(5) if len(order) == 5)
                          for saying in (TREES, PARTINGS)], [42, 52])


if __name__ == "__main__":
    unittest.main()
