import unittest
from fractions import Fraction

from onejumps.errors import InvalidJump, InvalidPrices, InvalidSaying, NotTame
from onejumps.jumps import jumps
from onejumps.prices import anew, cost, dearest, saved, walk_cost
from onejumps.walks import steps
from tests.helping import NO_SAYINGS, Case, bent, exactly
from tests.sayings import ALL, NONE_OF_TWO, PARTINGS, RISING, TREES, some_sayings, tame_sayings, wild_sayings
from tests.trying import failing_by_trying, jumps_by_trying, orders_up_to, walk_by_trying

OF_WALKS = [walk_cost, anew, saved, dearest]

ONE = (1, 1)
NONE = (0, 1)

PRICES = [
    (ONE, ONE, ONE, ONE, ONE, ONE), (NONE, NONE, NONE, NONE, NONE, NONE),
    (NONE, (1, 2), (1, 3), (3, 4), (5, 6), (7, 60)), ((10 ** 20, 3), (7, 10 ** 18 + 1), NONE, (5, 2), (1, 97), (4, 1)),
    ((1, 6), (1, 10), (1, 15), (2, 15), NONE, (9, 14)), (ONE, NONE, NONE, NONE, NONE, NONE),
    (NONE, NONE, NONE, (8, 1), NONE, NONE),
]

NO_PRICES = [
    None, True, 0, 1, "", "11", (), [], [ONE], ONE, ((1, 1), 1), ((1, 1), (1,)), ((1, 1, 1),), ([1, 1],), ("11",), (None,),
    ((1, 0),), ((0, 0),), ((-1, 1),), ((1, -1),), ((-1, -1),), ((2, 2),), ((2, 4),), ((0, 2),), ((6, 9),), ((True, 1),),
    ((1, True),), ((1, None),), ((None, 1),), (("1", 1),), ((1, "1"),), ((1, 2), (2, 4)), (((1, 1),),), {(1, 1): 1},
    (ONE, ONE, ()), (ONE, [1, 1], ONE),
]

NO_JUMPS = [
    None, True, 0, "", "3 1", [], [3, 1], (), (3,), (3, 1, 1), (1, 1), (0, 1), (-2, 1), (4, 1), (3, 0), (True, 1),
    (3, True), (3, False), (3, None), (None, 1), ("3", 1), (3, "1"), ([3], 1), ((3, 1),), (3, (1,)), {3: 1},
]


def number(fraction):
    return (fraction.numerator, fraction.denominator)


def fractions(prices):
    return [Fraction(top, bottom) for top, bottom in prices]


def costs_by_trying(saying, prices):
    """What each step of the walk costs, as fractions."""
    told = walk_by_trying(saying, len(prices))
    costs = []
    for one, other in zip(told, told[1:]):
        (thing, over), = [jump for jump, there in jumps_by_trying(one).items() if there == other]
        costs.append(fractions(prices)[thing - 1] * abs(over))
    return costs


class TestCost(Case):
    def test_all_jumps_of_few_things(self):
        for order in orders_up_to(4):
            for jump in jumps(order):
                for prices in PRICES:
                    told = number(fractions(prices)[jump[0] - 1] * abs(jump[1]))
                    self.assertEqual(exactly(cost(prices[:len(order)], jump)), exactly(told))

    def test_by_position_and_by_name(self):
        prices = (NONE, (1, 6), (5, 4))
        for jump, told in [
            ((2, 1), (1, 6)), ((2, -1), (1, 6)), ((3, 2), (5, 2)), ((3, -2), (5, 2)), ((3, 4), (5, 1)), ((2, -4), (2, 3)),
            ((2, 6 * 10 ** 20), (10 ** 20, 1)),
        ]:
            self.assert_told(cost, {"prices": prices, "jump": jump}, told)
        self.assert_told(cost, {"prices": (ONE, NONE), "jump": (2, -1)}, NONE)


class TestOfWalks(Case):
    def assert_priced(self, saying, prices):
        costs = costs_by_trying(saying, prices)
        whole = sum(fractions(prices)) * len(costs)
        spent = sum(costs)
        share = (whole - spent) / whole if whole else Fraction(0)
        told = None
        if costs:
            told = (number(max(costs)), costs.index(max(costs)) + 1)
        arguments = {"saying": saying, "prices": prices}
        self.assert_told(walk_cost, arguments, number(Fraction(spent)))
        self.assert_told(anew, arguments, number(Fraction(whole)))
        self.assert_told(saved, arguments, number(Fraction(share)))
        self.assert_told(dearest, arguments, told)
        return share

    def test_tame_families(self):
        for saying in tame_sayings():
            for prices in PRICES:
                for n in range(1, 5):
                    self.assert_priced(saying, prices[:n])

    def test_of_five_and_six(self):
        for saying in (ALL, TREES, PARTINGS):
            for prices in PRICES[2:5]:
                self.assert_priced(saying, prices[:5])
            self.assert_priced(saying, PRICES[2])

    def test_costing_more_than_anew(self):
        shares = [self.assert_priced(saying, (NONE, NONE, (7, 3))) for saying in (ALL, TREES, PARTINGS)]
        self.assertEqual(self.assert_priced(ALL, (NONE, (1, 5))), 0)
        more = [self.assert_priced(saying, (NONE,) * (n - 1) + (ONE,)) for saying in tame_sayings() for n in (3, 4, 5)]
        self.assertLess(min(more), 0)
        self.assertLess(min(shares + more), 0)
        self.assertGreater(max(shares + more), 0)

    def test_prices_of_0(self):
        for n in (1, 2, 4):
            arguments = {"saying": TREES, "prices": (NONE,) * n}
            for function in (walk_cost, anew, saved):
                self.assert_told(function, arguments, NONE)
            self.assert_told(dearest, arguments, None if n == 1 else (NONE, 1))

    def test_one_price_alone(self):
        for saying in (TREES, RISING, NONE_OF_TWO):
            arguments = {"saying": saying, "prices": ((7, 2),)}
            for function in (walk_cost, anew, saved):
                self.assert_told(function, arguments, NONE)
            self.assert_told(dearest, arguments, None)

    def test_the_first_of_the_dearest(self):
        self.assert_told(dearest, {"saying": ALL, "prices": (ONE, ONE, ONE)}, (ONE, 1))
        self.assert_told(dearest, {"saying": ALL, "prices": (ONE, (3, 2), ONE)}, ((3, 2), 3))
        self.assert_told(dearest, {"saying": TREES, "prices": (ONE, (2, 1), ONE)}, ((2, 1), 3))
        self.assert_told(dearest, {"saying": ALL, "prices": (NONE, (1, 3), (1, 2), (1, 3))}, ((1, 2), 4))

    def test_steps_that_are_told_are_what_it_costs(self):
        prices = PRICES[2][:5]
        for saying in tame_sayings():
            told = [Fraction(*cost(prices, jump)) for jump in steps(saying, 5)]
            self.assertEqual(Fraction(*walk_cost(saying, prices)), sum(told))
            self.assertEqual(Fraction(*dearest(saying, prices)[0]), max(told))


class TestErrors(Case):
    def test_no_prices(self):
        for told in NO_PRICES:
            self.assert_error(cost, {"prices": told, "jump": (2, 1)}, InvalidPrices, told)
            for function in OF_WALKS:
                self.assert_error(function, {"saying": TREES, "prices": told}, InvalidPrices, told)
                self.assert_error(function, {"saying": RISING, "prices": told}, InvalidPrices, told)

    def test_nearly_prices(self):
        refused = 0
        for told in bent(((1, 2), (4, 3))):
            right = isinstance(told, tuple) and told and all(
                type(price) is tuple and [type(part) for part in price] == [int, int] and price[1] > 0 and price[0] >= 0
                and number(Fraction(*price)) == price for price in told)
            if not right:
                refused += 1
                self.assert_error(anew, {"saying": TREES, "prices": told}, InvalidPrices, told)
            else:
                self.assertIs(type(anew(TREES, told)), tuple)
        self.assertGreater(refused, 30)

    def test_no_jumps(self):
        for told in NO_JUMPS:
            self.assert_error(cost, {"prices": (ONE, ONE, ONE), "jump": told}, InvalidJump, told)
        self.assert_error(cost, {"prices": (ONE,), "jump": (2, 1)}, InvalidJump, (2, 1))
        self.assert_error(cost, {"prices": (ONE,), "jump": (1, 1)}, InvalidJump, (1, 1))

    def test_no_sayings(self):
        for told in NO_SAYINGS:
            for function in OF_WALKS:
                self.assert_error(function, {"saying": told, "prices": (ONE, ONE)}, InvalidSaying, told)

    def test_not_tame(self):
        refused = 0
        for saying in some_sayings() + wild_sayings():
            for n in range(2, 6):
                told = failing_by_trying(saying, n)
                if told is not None:
                    refused += 1
                    for function in OF_WALKS:
                        self.assert_error(function, {"saying": saying, "prices": PRICES[1][:n]}, NotTame, told)
        self.assertGreater(refused, 40)

    def test_which_is_due(self):
        prices = [("prices", told, InvalidPrices, told) for told in (None, (), ((2, 2),))]
        sayings = [("saying", told, InvalidSaying, told) for told in (None, ["list", ()])]
        wild = [("saying", told, NotTame, ("front", (1,))) for told in (RISING, NONE_OF_TWO)]
        for function in OF_WALKS:
            self.assert_due(function, {"saying": TREES, "prices": (ONE, ONE)}, prices + sayings + wild)
        wrong = [("jump", told, InvalidJump, told) for told in (None, (3, 1), (1, 1))]
        self.assert_due(cost, {"prices": (ONE, ONE), "jump": (2, 1)}, prices + wrong)

    def test_refused_calls_change_no_later_answer(self):
        refused = [
            (cost, ((ONE,), (2, 1))), (walk_cost, (RISING, (ONE, ONE))), (anew, (TREES, ())), (saved, (None, (ONE,))),
            (dearest, (NONE_OF_TWO, (ONE, ONE))),
        ]
        for function in OF_WALKS:
            self.assert_unchanged_by_refused(function, (TREES, PRICES[2][:4]), refused)


class TestExample(Case):
    def test_of_the_section(self):
        ones = (ONE, ONE, ONE)
        self.assertEqual(
            [walk_cost(TREES, ones), anew(TREES, ones), saved(TREES, ones), dearest(TREES, ones)],
            [(5, 1), (12, 1), (7, 12), ((2, 1), 4)],
        )


if __name__ == "__main__":
    unittest.main()
