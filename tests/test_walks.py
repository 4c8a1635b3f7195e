import unittest

from onejumps.errors import InvalidNumber, InvalidSaying, JumpError, NotMeant, NotTame
from onejumps.walks import by_rule, closes, rule_goes_through, steps, walk
from tests.helping import NO_INTEGERS, NO_SAYINGS, Case
from tests.sayings import (
    ALL, NONE_OF_TWO, PARTINGS, RISING, TREES, deep_saying, some_sayings, steady_sayings, tame_sayings, wild_sayings,
)
from tests.trying import (
    all_orders, failing_by_trying, jumps_by_trying, members_by_trying, rule_by_trying, walk_by_trying,
)

FUNCTIONS = [walk, steps, by_rule, rule_goes_through, closes]


def tame_ones(most):
    """Pairs of a saying and a number of things, to which its family is tame."""
    return [
        (saying, n)
        for saying in tame_sayings() + some_sayings() + wild_sayings()
        for n in range(1, most + 1)
        if failing_by_trying(saying, n) is None
    ]


class TestWalk(Case):
    def test_as_the_document_makes_it(self):
        for saying, n in tame_ones(5):
            self.assert_told(walk, {"saying": saying, "n": n}, list(walk_by_trying(saying, n)))

    def test_of_six(self):
        for saying in tame_sayings() + [deep_saying(("both", "either"), True)]:
            self.assertEqual(walk(saying, 6), list(walk_by_trying(saying, 6)), saying)

    def test_all_that_is_meant_each_once_by_one_jump(self):
        for saying, n in tame_ones(6):
            told = walk(saying, n)
            self.assertEqual(sorted(told), list(members_by_trying(saying, n)), (saying, n))
            self.assertEqual(told[0], tuple(range(1, n + 1)))
            for one, other in zip(told, told[1:]):
                self.assertIn(other, jumps_by_trying(one).values(), (saying, one))

    def test_small_ones(self):
        self.assert_told(walk, {"saying": ALL, "n": 1}, [(1,)])
        self.assert_told(walk, {"saying": ALL, "n": 2}, [(1, 2), (2, 1)])
        self.assert_told(
            walk, {"saying": ALL, "n": 3}, [(1, 2, 3), (1, 3, 2), (3, 1, 2), (3, 2, 1), (2, 3, 1), (2, 1, 3)])
        self.assert_told(
            walk, {"saying": PARTINGS, "n": 3}, [(1, 2, 3), (3, 1, 2), (3, 2, 1), (2, 3, 1), (2, 1, 3)])
        self.assert_told(walk, {"saying": RISING, "n": 1}, [(1,)])

    def test_lists_are_new_at_each_call(self):
        for saying, n in [(ALL, 1), (ALL, 3), (TREES, 4)]:
            self.assert_new_list(walk, saying, n)


class TestSteps(Case):
    def test_they_lead_along_the_walk(self):
        for saying, n in tame_ones(5) + [(saying, 6) for saying in steady_sayings()]:
            told = walk_by_trying(saying, n)
            jumps = steps(saying, n)
            self.assertEqual(len(jumps), len(told) - 1)
            for jump, one, other in zip(jumps, told, told[1:]):
                self.assertEqual(jumps_by_trying(one)[jump], other, (saying, one))

    def test_small_ones(self):
        self.assert_told(steps, {"saying": ALL, "n": 1}, [])
        self.assert_told(steps, {"saying": ALL, "n": 2}, [(2, -1)])
        self.assert_told(steps, {"saying": ALL, "n": 3}, [(3, -1), (3, -1), (2, -1), (3, 1), (3, 1)])
        self.assert_told(steps, {"saying": PARTINGS, "n": 3}, [(3, -2), (2, -1), (3, 1), (3, 1)])

    def test_lists_are_new_at_each_call(self):
        for saying, n in [(ALL, 1), (ALL, 3), (TREES, 4)]:
            self.assert_new_list(steps, saying, n)


class TestByRule(Case):
    def test_step_by_step_for_tame_families_and_others(self):
        for saying in tame_sayings() + some_sayings() + wild_sayings():
            for n in range(1, 6):
                arguments = {"saying": saying, "n": n}
                risen = tuple(range(1, n + 1))
                if risen not in members_by_trying(saying, n):
                    self.assert_error(by_rule, arguments, NotMeant, risen)
                    self.assert_error(rule_goes_through, arguments, NotMeant, risen)
                    continue
                told = rule_by_trying(saying, n)
                self.assert_told(by_rule, arguments, told)
                self.assert_told(rule_goes_through, arguments, len(told) == len(members_by_trying(saying, n)))

    def test_of_six(self):
        for saying in [TREES, PARTINGS] + wild_sayings()[4:11]:
            if tuple(range(1, 7)) in members_by_trying(saying, 6):
                told = rule_by_trying(saying, 6)
                self.assertEqual(by_rule(saying, 6), told, saying)
                self.assertIs(rule_goes_through(saying, 6), len(told) == len(members_by_trying(saying, 6)))

    def test_it_finds_the_walk_of_a_tame_family(self):
        for saying, n in tame_ones(6):
            self.assertEqual(by_rule(saying, n), walk(saying, n), (saying, n))
            self.assertIs(rule_goes_through(saying, n), True, (saying, n))

    def test_each_word_of_the_rule(self):
        # From (1, 2, 4, 3) neither 4 nor 3 can go on, so that 2 does; then 4 could go over one to both sides,
        # and takes the left one; from (4, 2, 1, 3) all but the longest jump lead to what was come to.
        gaps = ("list", (((1, 4, 2, 3), None), ((4, 1, 2, 3), None)))
        told = by_rule(gaps, 4)
        self.assertEqual(told[:6], [(1, 2, 3, 4), (1, 2, 4, 3), (2, 1, 4, 3), (2, 4, 1, 3), (4, 2, 1, 3), (2, 1, 3, 4)])
        self.assertEqual(told, rule_by_trying(gaps, 4))
        self.assert_told(by_rule, {"saying": RISING, "n": 3}, [(1, 2, 3)])
        self.assert_told(rule_goes_through, {"saying": RISING, "n": 3}, True)
        # The jump from (1, 2, 3) to (3, 2, 1), which is meant as well, would be one of two things.
        twos = ("list", (((1, 3, 2), None), ((3, 1, 2), None), ((2, 1, 3), None), ((2, 3, 1), None)))
        self.assert_told(by_rule, {"saying": twos, "n": 3}, [(1, 2, 3)])
        self.assert_told(rule_goes_through, {"saying": twos, "n": 3}, False)

    def test_lists_are_new_at_each_call(self):
        for saying, n in [(ALL, 1), (ALL, 3), (RISING, 3)]:
            self.assert_new_list(by_rule, saying, n)


class TestCloses(Case):
    def test_by_trying(self):
        for saying, n in tame_ones(5) + [(saying, 6) for saying in tame_sayings()]:
            told = walk_by_trying(saying, n)
            self.assertIs(closes(saying, n), told[0] in jumps_by_trying(told[-1]).values(), (saying, n))

    def test_some(self):
        self.assert_told(closes, {"saying": ALL, "n": 1}, False)
        self.assert_told(closes, {"saying": ALL, "n": 2}, True)
        self.assert_told(closes, {"saying": ALL, "n": 5}, True)
        self.assert_told(closes, {"saying": TREES, "n": 4}, False)
        self.assert_told(closes, {"saying": PARTINGS, "n": 3}, True)
        self.assert_told(closes, {"saying": RISING, "n": 1}, False)

    def test_both_answers_are_found(self):
        told = [closes(saying, n) for saying, n in tame_ones(5) if n > 2]
        self.assertIn(True, told)
        self.assertIn(False, told)


class TestErrors(Case):
    def test_no_sayings(self):
        for function in FUNCTIONS:
            for told in NO_SAYINGS:
                self.assert_error(function, {"saying": told, "n": 3}, InvalidSaying, told)
            self.assert_error(function, {"saying": ["list", ()], "n": None}, InvalidSaying, ["list", ()])

    def test_no_numbers(self):
        for function in FUNCTIONS:
            for n in [0, -1, -6] + NO_INTEGERS:
                for saying in (ALL, RISING, NONE_OF_TWO):
                    self.assert_error(function, {"saying": saying, "n": n}, InvalidNumber, n)

    def test_not_tame_with_what_failing_tells(self):
        refused = 0
        for saying in some_sayings() + wild_sayings():
            for n in range(1, 7):
                told = failing_by_trying(saying, n)
                if told is not None:
                    refused += 1
                    for function in (walk, steps, closes):
                        self.assert_error(function, {"saying": saying, "n": n}, NotTame, told)
        self.assertGreater(refused, 50)

    def test_not_meant(self):
        for function in (by_rule, rule_goes_through):
            for bars, n in [((((1, 2), 0),), 2), ((((1, 2, 3), None),), 3), ((((1, 2, 3), 1),), 6)]:
                risen = tuple(range(1, n + 1))
                self.assert_error(function, {"saying": ("list", bars), "n": n}, NotMeant, risen)

    def test_refused_calls_change_no_later_answer(self):
        told = [function(TREES, 4) for function in FUNCTIONS]
        for function in FUNCTIONS:
            for saying, n in [(None, 4), (TREES, 0), (NONE_OF_TWO, 4)]:
                with self.assertRaises(JumpError):
                    function(saying, n)
            self.assertEqual([other(TREES, 4) for other in FUNCTIONS], told)


class TestExample(Case):
    def test_of_the_section(self):
        self.assertEqual(walk(TREES, 3), [(1, 2, 3), (1, 3, 2), (3, 1, 2), (3, 2, 1), (2, 1, 3)])
        self.assertEqual(
            [steps(TREES, 3), by_rule(TREES, 3) == walk(TREES, 3), closes(("list", ()), 4), closes(TREES, 3)],
            [[(3, -1), (3, -1), (2, -1), (3, 2)], True, True, True],
        )

    def test_all_orders_are_walked_through_by_neighbours(self):
        for n in range(2, 7):
            self.assertEqual({abs(over) for _, over in steps(ALL, n)}, {1})
            self.assertEqual(len(walk(ALL, n)), len(all_orders(n)))


if __name__ == "__main__":
    unittest.main()
