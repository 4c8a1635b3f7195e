import unittest

from onejumps.errors import InvalidNumber, InvalidOrder, InvalidSaying, JumpError, NotMeant, NotTame
from onejumps.places import last_of, next_jump, next_of, nth, place_of, stretch
from tests.helping import NO_INTEGERS, NO_ORDERS, NO_SAYINGS, Case
from tests.sayings import (
    ALL, NONE_OF_TWO, PARTINGS, RISING, TREES, deep_saying, some_sayings, tame_sayings, wild_sayings,
)
from tests.trying import (
    all_orders, failing_by_trying, jumps_by_trying, members_by_trying, orders_up_to, walk_by_trying,
)

OF_ORDERS = [place_of, next_of, last_of, next_jump]


class TestThereAndBack(Case):
    def assert_places(self, saying, n, every):
        told = walk_by_trying(saying, n)
        for place in range(0, len(told), every):
            order = told[place]
            ahead = told[place - 1] if place > 0 else None
            behind = told[place + 1] if place + 1 < len(told) else None
            self.assertEqual(nth(saying, n, place), order)
            self.assertEqual(place_of(saying, order), place)
            self.assertEqual(last_of(saying, order), ahead)
            self.assertEqual(next_of(saying, order), behind)
            jump = next_jump(saying, order)
            self.assertEqual(None if jump is None else jumps_by_trying(order)[jump], behind)

    def test_along_each_walk_of_up_to_four(self):
        for saying in tame_sayings():
            for n in range(1, 5):
                self.assert_places(saying, n, 1)

    def test_along_walks_of_five_and_six(self):
        for saying in tame_sayings():
            self.assert_places(saying, 5, 3)
        for saying in [ALL, TREES, PARTINGS, deep_saying(("either", "both"), True)]:
            self.assert_places(saying, 6, 13)

    def test_families_that_are_tame_so_far_alone(self):
        saying = ("list", (((1, 2, 3, 4, 5), None),))
        self.assert_places(saying, 4, 1)
        self.assert_error(place_of, {"saying": saying, "order": (2, 1, 3, 4, 5)}, NotTame, ("end", (1, 2, 3, 4)))
        self.assert_places(RISING, 1, 1)

    def test_at_the_ends_though_the_walk_closes(self):
        for saying, n in [(ALL, 2), (ALL, 4), (TREES, 3), (PARTINGS, 3)]:
            told = walk_by_trying(saying, n)
            self.assertIn(told[0], jumps_by_trying(told[-1]).values())
            self.assert_told(last_of, {"saying": saying, "order": told[0]}, None)
            self.assert_told(next_of, {"saying": saying, "order": told[-1]}, None)
            self.assert_told(next_jump, {"saying": saying, "order": told[-1]}, None)

    def test_one_thing(self):
        for saying in (ALL, RISING, NONE_OF_TWO):
            self.assert_told(nth, {"saying": saying, "n": 1, "i": 0}, (1,))
            self.assert_told(place_of, {"saying": saying, "order": (1,)}, 0)
            for function in (next_of, last_of, next_jump):
                self.assert_told(function, {"saying": saying, "order": (1,)}, None)

    def test_by_position_and_by_name(self):
        self.assert_told(nth, {"saying": ALL, "n": 3, "i": 4}, (2, 3, 1))
        self.assert_told(place_of, {"saying": ALL, "order": (2, 3, 1)}, 4)
        self.assert_told(next_of, {"saying": ALL, "order": (2, 3, 1)}, (2, 1, 3))
        self.assert_told(last_of, {"saying": ALL, "order": (2, 3, 1)}, (3, 2, 1))
        self.assert_told(next_jump, {"saying": ALL, "order": (2, 3, 1)}, (3, 1))
        self.assert_told(next_jump, {"saying": PARTINGS, "order": (1, 2, 3)}, (3, -2))


class TestStretch(Case):
    def test_from_each_place_so_many(self):
        for saying, n in [(ALL, 1), (ALL, 3), (TREES, 4), (PARTINGS, 4)]:
            told = walk_by_trying(saying, n)
            for first in range(len(told)):
                for many in [*range(len(told) - first + 3), 10 ** 12]:
                    self.assert_told(
                        stretch, {"saying": saying, "n": n, "first": first, "many": many},
                        list(told)[first:][:many])

    def test_put_one_behind_the_other_they_are_the_walk(self):
        for saying in tame_sayings():
            told = list(walk_by_trying(saying, 5))
            for many in (1, 7, 100, len(told)):
                parts = [stretch(saying, 5, first, many) for first in range(0, len(told), many)]
                self.assertEqual([order for part in parts for order in part], told)

    def test_none_and_more_than_are_left(self):
        self.assert_told(stretch, {"saying": TREES, "n": 3, "first": 0, "many": 0}, [])
        self.assert_told(stretch, {"saying": TREES, "n": 3, "first": 4, "many": 0}, [])
        self.assert_told(stretch, {"saying": TREES, "n": 3, "first": 3, "many": 9}, [(3, 2, 1), (2, 1, 3)])

    def test_lists_are_new_at_each_call(self):
        self.assert_new_list(stretch, TREES, 3, 0, 5)
        self.assert_new_list(stretch, TREES, 3, 1, 2)
        self.assert_new_list(stretch, TREES, 3, 1, 0)


class TestErrors(Case):
    def test_no_sayings(self):
        for told in NO_SAYINGS:
            self.assert_error(nth, {"saying": told, "n": 3, "i": 0}, InvalidSaying, told)
            self.assert_error(nth, {"saying": told, "n": 0, "i": -1}, InvalidSaying, told)
            self.assert_error(stretch, {"saying": told, "n": 3, "first": 0, "many": 1}, InvalidSaying, told)
            self.assert_error(stretch, {"saying": told, "n": 0, "first": -1, "many": -1}, InvalidSaying, told)
            for function in OF_ORDERS:
                self.assert_error(function, {"saying": told, "order": (2, 1)}, InvalidSaying, told)
                self.assert_error(function, {"saying": told, "order": (2, 2)}, InvalidSaying, told)

    def test_no_numbers_of_things(self):
        for n in [0, -1, -6] + NO_INTEGERS:
            for saying in (TREES, RISING):
                self.assert_error(nth, {"saying": saying, "n": n, "i": 0}, InvalidNumber, n)
                self.assert_error(nth, {"saying": saying, "n": n, "i": -1}, InvalidNumber, n)
                told = {"saying": saying, "n": n, "first": 0, "many": 1}
                self.assert_error(stretch, told, InvalidNumber, n)
                told = {"saying": saying, "n": n, "first": -2, "many": -3}
                self.assert_error(stretch, told, InvalidNumber, n)

    def test_no_orders(self):
        for order in NO_ORDERS:
            for function in OF_ORDERS:
                self.assert_error(function, {"saying": TREES, "order": order}, InvalidOrder, order)
                self.assert_error(function, {"saying": NONE_OF_TWO, "order": order}, InvalidOrder, order)

    def test_not_tame_to_as_many_things(self):
        refused = 0
        for saying in some_sayings() + wild_sayings():
            for n in range(2, 6):
                told = failing_by_trying(saying, n)
                if told is None:
                    continue
                refused += 1
                # Where it is not tame, it is not asked whether an order is meant or a number is below the count.
                self.assert_error(nth, {"saying": saying, "n": n, "i": 0}, NotTame, told)
                self.assert_error(nth, {"saying": saying, "n": n, "i": -1}, NotTame, told)
                self.assert_error(stretch, {"saying": saying, "n": n, "first": None, "many": None}, NotTame, told)
                for order in all_orders(n)[::31]:
                    for function in OF_ORDERS:
                        self.assert_error(function, {"saying": saying, "order": order}, NotTame, told)
        self.assertGreater(refused, 40)

    def test_not_meant(self):
        for saying in (TREES, PARTINGS, tame_sayings()[-1]):
            for order in orders_up_to(4):
                if order not in members_by_trying(saying, len(order)):
                    for function in OF_ORDERS:
                        self.assert_error(function, {"saying": saying, "order": order}, NotMeant, order)

    def test_no_places(self):
        for saying, n, many in [(ALL, 1, 1), (ALL, 3, 6), (TREES, 3, 5), (PARTINGS, 5, 52)]:
            self.assertEqual(nth(saying, n, many - 1), walk_by_trying(saying, n)[-1])
            for i in [-1, -many, many, many + 1, 10 ** 12] + NO_INTEGERS:
                self.assert_error(nth, {"saying": saying, "n": n, "i": i}, InvalidNumber, i)
                told = {"saying": saying, "n": n, "first": i, "many": 1}
                self.assert_error(stretch, told, InvalidNumber, i)
                # Of both the first from the left.
                told = {"saying": saying, "n": n, "first": i, "many": -5}
                self.assert_error(stretch, told, InvalidNumber, i)

    def test_no_numbers_of_orders(self):
        for many in [-1, -6] + NO_INTEGERS:
            for first in (0, 4):
                told = {"saying": TREES, "n": 3, "first": first, "many": many}
                self.assert_error(stretch, told, InvalidNumber, many)

    def test_refused_calls_change_no_later_answer(self):
        told = [nth(TREES, 4, 7)] + [function(TREES, (3, 1, 2)) for function in OF_ORDERS]
        for saying, order in [(None, (1, 2)), (TREES, (1, 1)), (TREES, (2, 3, 1)), (NONE_OF_TWO, (2, 1))]:
            for function in OF_ORDERS:
                with self.assertRaises(JumpError):
                    function(saying, order)
            with self.assertRaises(JumpError):
                nth(TREES, 4, 14)
            with self.assertRaises(JumpError):
                stretch(TREES, 4, 0, -1)
            self.assertEqual([nth(TREES, 4, 7)] + [function(TREES, (3, 1, 2)) for function in OF_ORDERS], told)


class TestExample(Case):
    def test_of_the_section(self):
        self.assertEqual(
            [nth(TREES, 4, 0), place_of(TREES, (3, 2, 1)), next_of(TREES, (3, 1, 2)), last_of(TREES, (1, 2)),
             next_jump(TREES, (3, 2, 1))],
            [(1, 2, 3, 4), 3, (3, 2, 1), None, (3, 2)],
        )


if __name__ == "__main__":
    unittest.main()
