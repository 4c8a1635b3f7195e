import unittest

from onejumps.errors import InvalidNumber, InvalidOrder, InvalidSaying, NotMeant, NotTame
from onejumps.hands import hand_walk, stretches, whose
from onejumps.places import place_of, stretch
from tests.helping import NO_COUNTS, NO_INTEGERS, NO_ORDERS, NO_SAYINGS, Case
from tests.sayings import ALL, NONE_OF_TWO, PARTINGS, RISING, TREES, some_sayings, tame_sayings, wild_sayings
from tests.trying import all_orders, failing_by_trying, members_by_trying, walk_by_trying

HANDS = [1, 2, 3, 4, 5, 6, 7, 13, 49, 50, 60]


def sizes_by_trying(total, hands):
    """How many orders each hand has, dealt out one by one to the hands in turn."""
    sizes = [0] * hands
    for k in range(total):
        sizes[k % hands] += 1
    return sizes


class TestStretches(Case):
    def test_put_one_behind_the_other_they_are_the_walk(self):
        for saying in tame_sayings()[::3]:
            for n in (1, 2, 4):
                walk = list(walk_by_trying(saying, n))
                for hands in HANDS:
                    told = stretches(saying, n, hands)
                    self.assertEqual([many for _, many in told], sizes_by_trying(len(walk), hands))
                    put = []
                    for hand, (first, many) in enumerate(told):
                        self.assertEqual(first, len(put))
                        put += stretch(saying, n, first, many) if many else []
                        self.assertEqual(put, walk[:first + many])
                    self.assertEqual(put, walk)

    def test_of_six(self):
        for hands in HANDS:
            told = stretches(ALL, 6, hands)
            self.assertEqual([many for _, many in told], sizes_by_trying(720, hands))
            self.assertEqual([first for first, _ in told], [sum(many for _, many in told[:k]) for k in range(hands)])

    def test_none_of_two_more_than_another_and_those_with_more_first(self):
        for saying, n in [(ALL, 1), (TREES, 3), (TREES, 4), (PARTINGS, 5)]:
            for hands in HANDS:
                sizes = [many for _, many in stretches(saying, n, hands)]
                self.assertLess(max(sizes) - min(sizes), 2)
                self.assertEqual(sizes, sorted(sizes, reverse=True))

    def test_some(self):
        for saying, n, hands, told in [
            (ALL, 1, 1, ((0, 1),)), (ALL, 1, 3, ((0, 1), (1, 0), (1, 0))), (TREES, 3, 3, ((0, 2), (2, 2), (4, 1))),
            (TREES, 3, 4, ((0, 2), (2, 1), (3, 1), (4, 1))), (ALL, 3, 3, ((0, 2), (2, 2), (4, 2))),
            (TREES, 3, 7, ((0, 1), (1, 1), (2, 1), (3, 1), (4, 1), (5, 0), (5, 0))), (RISING, 1, 2, ((0, 1), (1, 0))),
        ]:
            self.assert_told(stretches, {"saying": saying, "n": n, "hands": hands}, told)


class TestHandWalk(Case):
    def test_put_one_behind_the_other_they_are_the_walk(self):
        for saying in tame_sayings()[::2]:
            for n in (1, 3, 5):
                walk = list(walk_by_trying(saying, n))
                for hands in (1, 2, 7):
                    parts = [hand_walk(saying, n, hands, hand) for hand in range(hands)]
                    self.assertEqual(sum(parts, []), walk)
                    self.assertEqual([len(part) for part in parts], sizes_by_trying(len(walk), hands))

    def test_it_goes_with_whose(self):
        for saying, n in [(ALL, 1), (ALL, 4), (TREES, 5), (PARTINGS, 4), (tame_sayings()[4], 5)]:
            for hands in HANDS:
                told = {}
                for hand in range(hands):
                    for order in hand_walk(saying, n, hands, hand):
                        told[order] = hand
                for order in list(told)[::4]:
                    self.assertEqual(whose(saying, hands, order), told[order])

    def test_some(self):
        for saying, n, hands, hand, told in [
            (ALL, 1, 2, 0, [(1,)]), (ALL, 1, 2, 1, []), (TREES, 3, 1, 0, list(walk_by_trying(TREES, 3))),
            (TREES, 3, 3, 2, [(2, 1, 3)]), (TREES, 3, 6, 5, []),
        ]:
            self.assert_told(hand_walk, {"saying": saying, "n": n, "hands": hands, "hand": hand}, told)

    def test_lists_are_new_at_each_call(self):
        self.assert_new_list(hand_walk, TREES, 3, 2, 1)
        self.assert_new_list(hand_walk, TREES, 3, 9, 8)


class TestWhose(Case):
    def test_by_dealing_out(self):
        for saying in tame_sayings():
            for n in range(1, 5):
                for hands in (1, 2, 3, 5, 50):
                    owners = []
                    for hand, many in enumerate(sizes_by_trying(len(walk_by_trying(saying, n)), hands)):
                        owners += [hand] * many
                    for order, hand in zip(walk_by_trying(saying, n), owners):
                        self.assertEqual(whose(saying, hands, order), hand)
                        first, many = stretches(saying, n, hands)[hand]
                        self.assertTrue(first <= place_of(saying, order) < first + many)

    def test_by_position_and_by_name(self):
        for saying, hands, order, told in [
            (TREES, 2, (3, 1, 2), 0), (TREES, 2, (3, 2, 1), 1), (ALL, 9, (1,), 0), (ALL, 50, (2, 1, 3), 5),
        ]:
            self.assert_told(whose, {"saying": saying, "hands": hands, "order": order}, told)


class TestErrors(Case):
    def test_no_sayings_and_no_numbers(self):
        for told in NO_SAYINGS:
            self.assert_error(stretches, {"saying": told, "n": 3, "hands": 2}, InvalidSaying, told)
            self.assert_error(hand_walk, {"saying": told, "n": 3, "hands": 2, "hand": 0}, InvalidSaying, told)
            self.assert_error(whose, {"saying": told, "hands": 2, "order": (1,)}, InvalidSaying, told)
        for told in NO_COUNTS:
            self.assert_error(stretches, {"saying": TREES, "n": told, "hands": 2}, InvalidNumber, told)
            self.assert_error(stretches, {"saying": TREES, "n": 3, "hands": told}, InvalidNumber, told)
            arguments = {"saying": TREES, "n": told, "hands": 2, "hand": 0}
            self.assert_error(hand_walk, arguments, InvalidNumber, told)
            arguments = {"saying": TREES, "n": 3, "hands": told, "hand": 0}
            self.assert_error(hand_walk, arguments, InvalidNumber, told)
            self.assert_error(whose, {"saying": TREES, "hands": told, "order": (1,)}, InvalidNumber, told)

    def test_no_hands(self):
        for hands in (1, 3, 50):
            for told in [-1, -hands, hands, hands + 1, 10 ** 12] + NO_INTEGERS:
                arguments = {"saying": TREES, "n": 3, "hands": hands, "hand": told}
                self.assert_error(hand_walk, arguments, InvalidNumber, told)

    def test_no_orders(self):
        for told in NO_ORDERS:
            self.assert_error(whose, {"saying": TREES, "hands": 2, "order": told}, InvalidOrder, told)
        for order in all_orders(4):
            if order not in members_by_trying(TREES, 4):
                self.assert_error(whose, {"saying": TREES, "hands": 2, "order": order}, NotMeant, order)

    def test_not_tame(self):
        refused = 0
        for saying in some_sayings() + wild_sayings():
            for n in range(2, 6):
                told = failing_by_trying(saying, n)
                if told is None:
                    continue
                refused += 1
                self.assert_error(stretches, {"saying": saying, "n": n, "hands": 3}, NotTame, told)
                self.assert_error(hand_walk, {"saying": saying, "n": n, "hands": 3, "hand": 2}, NotTame, told)
                for order in all_orders(n)[::37]:
                    self.assert_error(whose, {"saying": saying, "hands": 3, "order": order}, NotTame, told)
        self.assertGreater(refused, 40)

    def test_which_is_due(self):
        sayings = [("saying", told, InvalidSaying, told) for told in (None, ["list", ()])]
        wild = [("saying", told, NotTame, ("front", (1,))) for told in (RISING, NONE_OF_TWO)]
        numbers = [("n", told, InvalidNumber, told) for told in (0, True)]
        hands = [("hands", told, InvalidNumber, told) for told in (0, None)]
        self.assert_due(stretches, {"saying": TREES, "n": 3, "hands": 2}, sayings + numbers + hands + wild)
        hand = [("hand", told, InvalidNumber, told) for told in (-1, "0")]
        right = {"saying": TREES, "n": 3, "hands": 2, "hand": 1}
        self.assert_due(hand_walk, right, sayings + numbers + hands + hand + wild)
        orders = [("order", told, InvalidOrder, told) for told in (None, (1, 1))]
        meant = [("order", (2, 3, 1), NotMeant, (2, 3, 1))]
        self.assert_due(whose, {"saying": TREES, "hands": 2, "order": (2, 1)}, sayings + hands + orders + wild + meant)

    def test_refused_calls_change_no_later_answer(self):
        refused = [
            (stretches, (RISING, 3, 2)), (hand_walk, (TREES, 3, 2, 2)), (whose, (TREES, 2, (2, 3, 1))),
            (stretches, (TREES, 3, 0)), (whose, (None, 2, (1,))),
        ]
        for function, arguments in [
            (stretches, (TREES, 4, 3)), (hand_walk, (TREES, 4, 3, 1)), (whose, (TREES, 3, (3, 1, 2))),
        ]:
            self.assert_unchanged_by_refused(function, arguments, refused)


class TestExample(Case):
    def test_of_the_section(self):
        self.assertEqual(
            [stretches(TREES, 3, 2), hand_walk(TREES, 3, 2, 1), whose(TREES, 2, (3, 1, 2))],
            [((0, 3), (3, 2)), [(3, 2, 1), (2, 1, 3)], 0],
        )


if __name__ == "__main__":
    unittest.main()
