import unittest

from onejumps.errors import InvalidBar, InvalidNumber, InvalidSaying
from onejumps.tame import failing, is_tame, least_bars, tame_for_ever
from tests.helping import NO_BARS, NO_INTEGERS, NO_SAYINGS, Case
from tests.sayings import (
    ALL, NONE_OF_TWO, RISING, TREES, deep_saying, some_sayings, steady_sayings, tame_sayings, wild_sayings,
)
from tests.trying import all_orders, failing_by_trying, orders_up_to, shows_by_trying


class TestFailing(Case):
    def test_by_going_through_all_orders_of_up_to_five(self):
        for saying in some_sayings() + tame_sayings() + wild_sayings():
            for n in range(1, 6):
                told = failing_by_trying(saying, n)
                self.assertEqual(failing(saying, n), told, (saying, n))
                self.assertIs(is_tame(saying, n), told is None, (saying, n))

    def test_of_six(self):
        for saying in tame_sayings() + wild_sayings():
            told = failing_by_trying(saying, 6)
            self.assertEqual(failing(saying, 6), told, saying)
            self.assertIs(is_tame(saying, 6), told is None, saying)

    def test_four_deep(self):
        for words in [("both", "either"), ("either", "both"), ("both", "both")]:
            saying = deep_saying(words, False)
            self.assertEqual(failing(saying, 6), failing_by_trying(saying, 6), words)

    def test_each_pair_of_bars_of_up_to_three(self):
        bars = [(pattern, near) for pattern in all_orders(3) for near in (None, 0, 1)]
        bars += [(pattern, near) for pattern in all_orders(2) for near in (None, 0)]
        for at, one in enumerate(bars):
            for other in bars[at:]:
                saying = ("list", (one, other))
                self.assertEqual(failing(saying, 4), failing_by_trying(saying, 4), saying)

    def test_steady_ones_are_tame(self):
        for saying in steady_sayings() + [deep_saying(("both", "either"), True)]:
            for n in range(1, 7):
                self.assert_told(failing, {"saying": saying, "n": n}, None)
                self.assert_told(is_tame, {"saying": saying, "n": n}, True)

    def test_each_word(self):
        hidden = ((3, 1, 4, 2), 0)
        for bars, n, told in [
            ((((2, 1), None),), 2, ("front", (1,))),
            ((((1, 2), None),), 2, ("end", (1,))),
            ((((1, 2), None), ((2, 1), None)), 2, ("front", (1,))),
            ((((1, 2, 3), None),), 3, ("end", (1, 2))),
            ((((3, 2, 1), None),), 3, ("front", (2, 1))),
            ((((3, 2, 1), None), ((1, 2, 3), None)), 3, ("end", (1, 2))),
            ((hidden,), 5, ("down", (3, 5, 1, 4, 2))),
            ((hidden, ((5, 3, 1, 4, 2), None)), 6, ("down", (3, 5, 1, 4, 2))),
            ((hidden, ((3, 1, 4, 2, 5), None)), 6, ("down", (3, 5, 1, 4, 2))),
            ((hidden, ((5, 1, 2, 3, 4), None)), 5, ("front", (1, 2, 3, 4))),
        ]:
            self.assert_told(failing, {"saying": ("list", bars), "n": n}, told)
            self.assert_told(is_tame, {"saying": ("list", bars), "n": n}, False)
            # It is only seen where orders of n things are.
            self.assert_told(failing, {"saying": ("list", bars), "n": len(told[1])}, told if told[0] == "down" else None)

    def test_one_thing(self):
        for saying in some_sayings() + wild_sayings():
            self.assert_told(failing, {"saying": saying, "n": 1}, None)
            self.assert_told(is_tame, {"saying": saying, "n": 1}, True)

    def test_errors(self):
        for function in (failing, is_tame):
            for told in NO_SAYINGS:
                self.assert_error(function, {"saying": told, "n": 2}, InvalidSaying, told)
                self.assert_error(function, {"saying": told, "n": 0}, InvalidSaying, told)
            for saying in (TREES, RISING):
                for n in [0, -1, -6] + NO_INTEGERS:
                    self.assert_error(function, {"saying": saying, "n": n}, InvalidNumber, n)


def least_by_trying(patterns):
    least = []
    for pattern in sorted(patterns, key=lambda told: (len(told), told)):
        # A pattern that shows an unlike one shows a least one, and that is shorter.
        if not any(shows_by_trying(pattern, (other, None)) for other in least):
            least.append(pattern)
    return tuple(least)


def plain(*patterns):
    return tuple((pattern, None) for pattern in patterns)


class TestLeastBars(Case):
    def assert_least(self, *patterns):
        least = least_by_trying(patterns)
        self.assert_told(least_bars, {"bars": plain(*patterns)}, least)
        ever = all(1 < pattern.index(len(pattern)) + 1 < len(pattern) for pattern in least)
        self.assert_told(tame_for_ever, {"bars": plain(*patterns)}, ever)

    def test_one_bar(self):
        for pattern in orders_up_to(5)[1:]:
            self.assert_least(pattern)

    def test_two_bars_of_two_to_four(self):
        patterns = orders_up_to(4)[1:]
        for one in patterns:
            for other in patterns:
                self.assert_least(one, other)

    def test_bars_of_five_beside_others(self):
        fives = all_orders(5)
        for at in range(0, 120, 7):
            for other in [(2, 1), (1, 3, 2), (2, 3, 1), (2, 4, 1, 3), fives[(at * 11 + 5) % 120]]:
                self.assert_least(fives[at], other, fives[(at + 60) % 120], other)

    def test_some_twice(self):
        self.assert_told(least_bars, {"bars": plain((2, 3, 1), (2, 3, 1))}, ((2, 3, 1),))
        self.assert_told(least_bars, {"bars": plain((2, 1), (2, 3, 1), (2, 1), (2, 3, 1))}, ((2, 1),))
        self.assert_told(tame_for_ever, {"bars": plain((2, 3, 1), (2, 3, 1))}, True)
        self.assert_told(tame_for_ever, {"bars": plain((2, 1), (2, 3, 1), (2, 1))}, False)

    def test_by_length_and_then_as_tuples(self):
        bars = plain((3, 1, 5, 2, 4), (3, 2, 1), (2, 4, 1, 3), (1, 2, 3), (1, 4, 3, 2, 5), (2, 3, 4, 1))
        self.assert_told(least_bars, {"bars": bars}, ((1, 2, 3), (3, 2, 1), (2, 4, 1, 3)))
        bars = plain((3, 1, 4, 2), (2, 4, 1, 3), (2, 3, 5, 4, 1), (1, 2, 3, 4, 5), (4, 3, 2, 1))
        self.assert_told(least_bars, {"bars": bars},
                         ((2, 4, 1, 3), (3, 1, 4, 2), (4, 3, 2, 1), (1, 2, 3, 4, 5), (2, 3, 5, 4, 1)))

    def test_those_that_show_others_do_not_count(self):
        self.assert_told(tame_for_ever, {"bars": plain((2, 3, 1, 4), (2, 3, 1))}, True)
        self.assert_told(tame_for_ever, {"bars": plain((2, 3, 1, 4), (1, 3, 2))}, False)
        self.assert_told(tame_for_ever, {"bars": plain((1, 2), (1, 3, 2))}, False)

    def test_none(self):
        self.assert_told(least_bars, {"bars": ()}, ())
        self.assert_told(tame_for_ever, {"bars": ()}, True)

    def test_it_goes_with_failing(self):
        lists = [plain(one, other) for one in orders_up_to(3)[1:] for other in orders_up_to(4)[1::3]]
        for bars in lists + [plain(pattern) for pattern in orders_up_to(4)[1:]]:
            # A pattern with its greatest thing at an end fails where it would be made from the rest of it.
            self.assertIs(tame_for_ever(bars), is_tame(("list", bars), 5), bars)

    def test_errors(self):
        near = [((2, 1), 0), ((1, 3, 2), 1), ((2, 3, 1), 0)]
        none = [None, True, 0, "", "21", [], [((2, 1), None)], {}, ALL, NONE_OF_TWO, ((2, 3, 1), None), (2, 3, 1)]
        for function in (least_bars, tame_for_ever):
            for told in none:
                self.assert_error(function, {"bars": told}, InvalidBar, told)
            for bar in near + NO_BARS:
                for bars in [(bar,), (((2, 3, 1), None), bar), (bar, ((2, 3, 1), None)), (bar, bar)]:
                    self.assert_error(function, {"bars": bars}, InvalidBar, bars)


class TestExample(Case):
    def test_of_the_section(self):
        self.assertEqual(
            [is_tame(TREES, 5), failing(RISING, 4), tame_for_ever((((2, 3, 1), None), ((1, 2, 3), None)))],
            [True, ("front", (1,)), False],
        )
        self.assertEqual(
            [failing(("list", (((1, 3, 2), 0), ((3, 1, 2), None))), 4),
             least_bars((((2, 3, 1), None), ((2, 3, 1, 4), None)))],
            [("front", (1, 2)), ((2, 3, 1),)],
        )


if __name__ == "__main__":
    unittest.main()
