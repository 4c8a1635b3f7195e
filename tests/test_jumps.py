import unittest

from onejumps.errors import InvalidJump, InvalidNumber, InvalidOrder, InvalidPair, InvalidSaying, NotMeant
from onejumps.jumps import between, jumped, jumps, least_jump, undone
from tests.helping import NO_INTEGERS, NO_ORDERS, NO_SAYINGS, Case
from tests.sayings import ALL, NONE_OF_TWO, TREES, some_sayings
from tests.trying import all_orders, jumps_by_trying, means_by_trying, orders_up_to


class TestJumps(Case):
    def test_by_trying_ascending(self):
        for order in orders_up_to(5):
            self.assert_told(jumps, {"order": order}, sorted(jumps_by_trying(order)))

    def test_none(self):
        self.assert_told(jumps, {"order": (1,)}, [])

    def test_twelve_things(self):
        order = (4, 12, 1, 7, 2, 3, 11, 5, 10, 6, 8, 9)
        self.assertEqual(jumps(order), sorted(jumps_by_trying(order)))

    def test_lists_are_new_at_each_call(self):
        for order in [(1,), (2, 1), (1, 3, 2), (2, 4, 1, 3)]:
            self.assert_new_list(jumps, order)

    def test_no_orders(self):
        for told in NO_ORDERS:
            self.assert_error(jumps, {"order": told}, InvalidOrder, told)


class TestJumpedAndUndone(Case):
    def test_there_and_back(self):
        for order in orders_up_to(5):
            for (thing, over), there in jumps_by_trying(order).items():
                self.assert_told(jumped, {"order": order, "thing": thing, "over": over}, there)
                self.assert_told(undone, {"jump": (thing, over)}, (thing, -over))
                self.assertEqual(jumped(there, *undone((thing, over))), order)

    def test_what_is_no_jump_of_the_order(self):
        for order in orders_up_to(4):
            right = jumps_by_trying(order)
            for thing in range(-1, 7):
                for over in range(-6, 7):
                    if (thing, over) not in right:
                        self.assert_error(
                            jumped, {"order": order, "thing": thing, "over": over}, InvalidJump, (thing, over))

    def test_refused(self):
        for order, thing, over in [
            ((2, 1, 3), 2, 2),     # over a greater thing
            ((3, 2, 1), 2, -1),    # over a greater thing
            ((3, 1, 2, 4), 3, 3),  # over lesser ones and a greater one
            ((1, 2, 3), 3, 1),     # beyond the end
            ((1, 2, 3), 3, -3),    # beyond the beginning
            ((2, 3, 1), 3, 2),     # beyond the end
            ((2, 3, 1), 3, 0),     # over none
            ((2, 3, 1), 4, -1),    # of a strange thing
            ((2, 3, 1), 0, 1),     # of a strange thing
            ((1,), 1, 1),          # of the only thing
        ]:
            self.assert_error(jumped, {"order": order, "thing": thing, "over": over}, InvalidJump, (thing, over))

    def test_no_integers(self):
        for told in NO_INTEGERS:
            self.assert_error(jumped, {"order": (1, 2), "thing": told, "over": -1}, InvalidJump, (told, -1))
            self.assert_error(jumped, {"order": (2, 1), "thing": 2, "over": told}, InvalidJump, (2, told))
            self.assert_error(jumped, {"order": (2, 1), "thing": told, "over": told}, InvalidJump, (told, told))

    def test_the_order_is_due_ahead_of_the_jump(self):
        for told in NO_ORDERS:
            self.assert_error(jumped, {"order": told, "thing": 2, "over": -1}, InvalidOrder, told)
            self.assert_error(jumped, {"order": told, "thing": None, "over": 0}, InvalidOrder, told)

    def test_undone_of_any_thing_from_two_on(self):
        for jump, told in [((2, 1), (2, -1)), ((2, -9), (2, 9)), ((10 ** 9, -1), (10 ** 9, 1))]:
            self.assert_told(undone, {"jump": jump}, told)

    def test_undone_of_what_is_no_jump(self):
        strange = [None, True, 2, "", "21", b"21", [], [2, 1], {}, {2: 1}, (), (2,), (2, 1, 1), ((2, 1),)]
        pairs = [(1, 1), (1, -1), (0, 1), (-2, 1), (2, 0), (2, None), (None, 1)]
        pairs += [(told, 1) for told in NO_INTEGERS] + [(2, told) for told in NO_INTEGERS]
        for told in strange + pairs:
            self.assert_error(undone, {"jump": told}, InvalidJump, told)


class TestBetween(Case):
    def test_all_pairs_of_up_to_four_things(self):
        for n in range(1, 5):
            for one in all_orders(n):
                leading = {}
                for jump, there in jumps_by_trying(one).items():
                    self.assertNotIn(there, leading)
                    leading[there] = jump
                for other in all_orders(n):
                    self.assert_told(between, {"one": one, "other": other}, leading.get(other))

    def test_an_order_and_itself(self):
        for order in orders_up_to(4):
            self.assert_told(between, {"one": order, "other": order}, None)

    def test_back_is_undone(self):
        for one in all_orders(5):
            for jump, other in jumps_by_trying(one).items():
                self.assertEqual(between(one, other), jump)
                self.assertEqual(between(other, one), undone(jump))

    def test_unlike_many(self):
        for one, other in [((1,), (1, 2)), ((1, 2, 3), (2, 1)), ((2, 1), (1, 2, 3, 4))]:
            self.assert_error(between, {"one": one, "other": other}, InvalidPair, (len(one), len(other)))

    def test_no_orders(self):
        for told in NO_ORDERS:
            self.assert_error(between, {"one": told, "other": (2, 1)}, InvalidOrder, told)
            self.assert_error(between, {"one": (2, 1), "other": told}, InvalidOrder, told)

    def test_the_first_from_the_left_is_due(self):
        for one in NO_ORDERS:
            for other in NO_ORDERS[::5]:
                self.assert_error(between, {"one": one, "other": other}, InvalidOrder, one)


def least_by_trying(saying, order, thing, way):
    found = [
        (abs(over), there)
        for (mover, over), there in jumps_by_trying(order).items()
        if mover == thing and over * way > 0 and means_by_trying(saying, there)
    ]
    return min(found)[1] if found else None


class TestLeastJump(Case):
    def test_by_trying_both_ways(self):
        for saying in some_sayings():
            for order in orders_up_to(4):
                if not means_by_trying(saying, order):
                    self.assert_error(
                        least_jump, {"saying": saying, "order": order, "thing": 1, "way": 1}, NotMeant, order)
                    continue
                for thing in order:
                    for way in (-1, 1):
                        self.assert_told(
                            least_jump, {"saying": saying, "order": order, "thing": thing, "way": way},
                            least_by_trying(saying, order, thing, way))

    def test_each_size(self):
        # With these bars the greatest thing stands at an end alone, so it jumps over all others at once.
        ends = ("list", tuple((pattern, None) for pattern in [(1, 3, 2), (2, 3, 1)]))
        self.assertEqual(least_jump(ALL, (1, 2, 3, 4, 5), 5, -1), (1, 2, 3, 5, 4))
        self.assertEqual(least_jump(TREES, (3, 2, 1, 4), 4, -1), (4, 3, 2, 1))
        self.assertEqual(least_jump(TREES, (3, 1, 2, 4), 4, -1), (4, 3, 1, 2))
        self.assertEqual(least_jump(TREES, (2, 1, 3, 4), 4, -1), (2, 1, 4, 3))
        self.assertEqual(least_jump(TREES, (2, 1, 4, 3), 4, -1), (4, 2, 1, 3))
        self.assertEqual(least_jump(TREES, (1, 3, 2, 4), 4, -1), (1, 4, 3, 2))
        for many in range(2, 9):
            order = tuple(range(1, many + 1))
            there = (many,) + order[:-1]
            self.assertEqual(least_jump(ends, order, many, -1), there)
            self.assertEqual(least_jump(ends, there, many, 1), order)
            self.assertIsNone(least_jump(ends, order, many, 1))
            self.assertIsNone(least_jump(ends, there, many, -1))

    def test_near_ones(self):
        near = ("list", (((1, 3, 2), 1),))
        for order in all_orders(5):
            if means_by_trying(near, order):
                for thing in order:
                    for way in (-1, 1):
                        self.assertEqual(
                            least_jump(near, order, thing, way), least_by_trying(near, order, thing, way))

    def test_none_where_none_is_meant_behind(self):
        self.assert_told(
            least_jump, {"saying": ("list", (((2, 1), None),)), "order": (1, 2, 3), "thing": 3, "way": -1}, None)
        self.assert_told(least_jump, {"saying": ALL, "order": (1,), "thing": 1, "way": -1}, None)
        self.assert_told(least_jump, {"saying": ALL, "order": (3, 1, 2), "thing": 1, "way": 1}, None)
        self.assert_told(least_jump, {"saying": ALL, "order": (3, 2, 1), "thing": 2, "way": -1}, None)

    def test_no_orders(self):
        for told in NO_ORDERS:
            self.assert_error(
                least_jump, {"saying": TREES, "order": told, "thing": 1, "way": 1}, InvalidOrder, told)

    def test_no_sayings(self):
        for told in NO_SAYINGS:
            self.assert_error(
                least_jump, {"saying": told, "order": (2, 1), "thing": 2, "way": 1}, InvalidSaying, told)

    def test_orders_that_are_not_meant(self):
        self.assert_error(
            least_jump, {"saying": TREES, "order": (2, 3, 1), "thing": 3, "way": 1}, NotMeant, (2, 3, 1))
        self.assert_error(
            least_jump, {"saying": NONE_OF_TWO, "order": (2, 1), "thing": 2, "way": 1}, NotMeant, (2, 1))

    def test_no_things_and_no_ways(self):
        for thing in [0, -1, 4, 99] + NO_INTEGERS:
            self.assert_error(
                least_jump, {"saying": TREES, "order": (1, 2, 3), "thing": thing, "way": -1}, InvalidNumber, thing)
        for way in [0, 2, -2, 99] + NO_INTEGERS:
            self.assert_error(
                least_jump, {"saying": TREES, "order": (1, 2, 3), "thing": 3, "way": way}, InvalidNumber, way)

    def test_the_error_that_stands_first_is_due(self):
        told = {"saying": None, "order": (1, 1), "thing": None, "way": 0}
        self.assert_error(least_jump, told, InvalidOrder, (1, 1))
        told["order"] = (2, 3, 1)
        self.assert_error(least_jump, told, InvalidSaying, None)
        told["saying"] = TREES
        self.assert_error(least_jump, told, NotMeant, (2, 3, 1))
        told["order"] = (2, 1, 3)
        self.assert_error(least_jump, told, InvalidNumber, None)
        told["thing"] = 4
        self.assert_error(least_jump, told, InvalidNumber, 4)
        told["thing"] = 3
        self.assert_error(least_jump, told, InvalidNumber, 0)
        told["way"] = -1
        self.assert_told(least_jump, told, (3, 2, 1))


class TestExample(Case):
    def test_of_the_section(self):
        self.assertEqual(
            [jumped((2, 1, 3), 3, -2), jumps((1, 3, 2)), between((1, 2, 3), (3, 1, 2)), between((1, 2, 3), (3, 2, 1))],
            [(3, 2, 1), [(3, -1), (3, 1)], (3, -2), None],
        )
        self.assertEqual(
            [least_jump(TREES, (1, 2, 3), 3, -1), least_jump(TREES, (2, 1, 3), 3, -1)],
            [(1, 3, 2), (3, 2, 1)],
        )


if __name__ == "__main__":
    unittest.main()
