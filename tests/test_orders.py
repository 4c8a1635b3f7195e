import unittest

from onejumps.errors import InvalidNumber, InvalidOrder, InvalidPlace
from onejumps.orders import is_order, orders, place_of_greatest, put, risen, taken_down, turned
from tests.helping import NO_INTEGERS, NO_ORDERS, Case
from tests.trying import all_orders, orders_up_to


class TestWhatIsAnOrder(Case):
    def test_orders_are(self):
        for order in orders_up_to(5) + [tuple(range(12, 0, -1)), tuple(range(1, 41))]:
            self.assert_told(is_order, {"told": order}, True)

    def test_others_are_none(self):
        for told in NO_ORDERS:
            self.assert_told(is_order, {"told": told}, False)


class TestTakenDownAndPut(Case):
    def test_put_at_every_place_and_taken_down_again(self):
        for order in orders_up_to(5):
            for place in range(len(order) + 1):
                things = list(order)
                things.insert(place, len(order) + 1)
                self.assert_told(put, {"order": order, "place": place}, tuple(things))
                self.assert_told(taken_down, {"order": tuple(things)}, order)
                self.assert_told(place_of_greatest, {"order": tuple(things)}, place)

    def test_taken_down_and_put_again(self):
        for order in orders_up_to(5)[1:]:
            self.assertEqual(put(taken_down(order), place_of_greatest(order)), order)

    def test_one_thing(self):
        self.assert_told(place_of_greatest, {"order": (1,)}, 0)
        self.assert_told(put, {"order": (1,), "place": 0}, (2, 1))
        self.assert_told(put, {"order": (1,), "place": 1}, (1, 2))
        self.assert_error(taken_down, {"order": (1,)}, InvalidOrder, (1,))

    def test_no_orders(self):
        for told in NO_ORDERS:
            for function in (taken_down, place_of_greatest, turned):
                self.assert_error(function, {"order": told}, InvalidOrder, told)
            self.assert_error(put, {"order": told, "place": 0}, InvalidOrder, told)

    def test_no_places(self):
        for order in [(1,), (2, 1), (2, 3, 1)]:
            for place in [-1, -2, len(order) + 1, 99, -10 ** 20, 10 ** 20] + NO_INTEGERS:
                self.assert_error(put, {"order": order, "place": place}, InvalidPlace, place)

    def test_the_order_is_due_ahead_of_the_place(self):
        for told in NO_ORDERS:
            for place in [-1, 99, None, True, "0", [0]]:
                self.assert_error(put, {"order": told, "place": place}, InvalidOrder, told)


class TestRisenAndTurned(Case):
    def test_risen(self):
        self.assert_told(risen, {"n": 1}, (1,))
        self.assert_told(risen, {"n": 4}, (1, 2, 3, 4))
        self.assert_told(risen, {"n": 12}, (1, 2, 3, 4, 5, 6, 7, 8, 9, 10, 11, 12))

    def test_turned(self):
        self.assert_told(turned, {"order": (1,)}, (1,))
        self.assert_told(turned, {"order": (2, 1, 3)}, (3, 1, 2))
        for order in orders_up_to(5):
            there = turned(order)
            self.assertEqual(there, tuple(reversed(order)))
            self.assertEqual(turned(there), order)

    def test_no_numbers(self):
        for n in [0, -1, -99] + NO_INTEGERS:
            self.assert_error(risen, {"n": n}, InvalidNumber, n)
            self.assert_error(orders, {"n": n}, InvalidNumber, n)


class TestOrders(Case):
    def test_all_each_once_ascending(self):
        for n in range(1, 6):
            self.assert_told(orders, {"n": n}, list(all_orders(n)))

    def test_seven_things(self):
        told = orders(7)
        self.assertEqual(len(told), 5040)
        self.assertEqual(len(set(told)), 5040)
        self.assertEqual(told, sorted(told))
        self.assertTrue(all(type(order) is tuple and is_order(order) and len(order) == 7 for order in told))
        self.assertEqual((told[0], told[-1]), ((1, 2, 3, 4, 5, 6, 7), (7, 6, 5, 4, 3, 2, 1)))

    def test_lists_are_new_at_each_call(self):
        for n in (1, 2, 4):
            self.assert_new_list(orders, n)


class TestExample(Case):
    def test_of_the_section(self):
        self.assertEqual(
            [taken_down((2, 3, 1)), put((2, 1), 0), put((2, 1), 2), place_of_greatest((1, 3, 2)), risen(3), orders(2)],
            [(2, 1), (3, 2, 1), (2, 1, 3), 1, (1, 2, 3), [(1, 2), (2, 1)]],
        )


if __name__ == "__main__":
    unittest.main()
