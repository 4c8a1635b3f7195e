import unittest

from onejumps.errors import HasRound, InvalidThing, InvalidWeb
from onejumps.walks import walk
from onejumps.webs import corners, directions, exchanged, how_many_directions, is_web, round_of
from tests.helping import Case, bent, exactly
from tests.sayings import ALL
from tests.trying_webs import (
    all_directions, all_pairs, all_webs, corners_by_trying, directions_by_trying, free_directions, round_by_trying,
    some_webs_of_six, web_round_by_trying,
)

THREE = (3, ((1, 2), (2, 3)))
ROUND = (4, ((1, 2), (1, 4), (2, 3), (3, 4)))
LONE = (1, ())

NO_WEBS = [
    None, True, 0, 3, "", "web", [], (), (3,), (3, (), ()), [3, ()], (3, []), (3, None), (3, "12"), (3, {}),
    (0, ()), (-1, ()), (True, ()), ("3", ()), (None, ()), ((3,), ()), (3, ((2, 1),)), (3, ((1, 1),)), (3, ((1, 4),)),
    (3, ((0, 1),)), (3, ((-1, 2),)), (3, ((2, 3), (1, 2))), (3, ((1, 2), (1, 2))), (3, ((1, 3), (1, 2))),
    (3, ([1, 2],)), (3, ((1, 2, 3),)), (3, ((1,),)), (3, (1, 2)), (3, ((True, 2),)), (3, ((1, "2"),)), (3, ((1, None),)),
    (3, ("12",)), (3, (None,)), (3, ((1, 2), [2, 3])), (1, ((1, 2),)), (3, (((1, 2),),)), (3, ((1, 2), ())),
]

NO_DIRECTIONS = [
    None, True, 0, "", "12", [], {}, (), ((1, 2),), ((1, 2), (2, 3), (1, 3)), [(1, 2), (2, 3)], ([1, 2], (2, 3)),
    ((1, 2), [3, 2]), ((2, 3), (1, 2)), ((1, 2), (1, 2)), ((1, 2), (1, 3)), ((1, 2), (2, 2)), ((1, 2), (2, 4)),
    ((True, 2), (2, 3)), ((1, 2), (2, "3")), ((1, 2), (None, 3)), ((1, 2), (2, 3, 3)), ((1, 2), (2,)), ((1, 2), 2),
    ((1, 2), "23"), ((1, 2), None), (1, 2), ((1, 2), (-2, 3)),
]


def webs_up_to(n):
    return [web for many in range(1, n + 1) for web in all_webs(many)]


def taken_apart(webs):
    return [web for web in webs if corners_by_trying(web)[0] == "order"]


class TestIsWeb(Case):
    def test_all_of_up_to_five(self):
        for web in webs_up_to(5):
            self.assertIs(is_web(web), True, web)

    def test_nearly_webs(self):
        right = {exactly(web) for web in webs_up_to(5)}
        for web in webs_up_to(4):
            for told in bent(web):
                self.assertIs(is_web(told), exactly(told) in right, told)

    def test_others(self):
        for told in NO_WEBS:
            self.assert_told(is_web, {"told": told}, False)

    def test_some_that_are(self):
        for told in [LONE, (4, ()), THREE, ROUND, (12, ((1, 12), (2, 5), (11, 12)))]:
            self.assert_told(is_web, {"told": told}, True)


class TestCorners(Case):
    def test_all_of_up_to_five(self):
        for web in webs_up_to(5):
            self.assertEqual(exactly(corners(web)), exactly(corners_by_trying(web)), web)

    def test_some_of_six(self):
        found = []
        for web in some_webs_of_six():
            told = corners_by_trying(web)
            self.assertEqual(exactly(corners(web)), exactly(told), web)
            found.append(told[0])
        self.assertEqual(set(found), {"order", "round"})

    def test_rounds_of_four_five_and_six(self):
        six = (6, ((1, 2), (1, 6), (2, 3), (3, 4), (4, 5), (5, 6)))
        for web, told in [
            (ROUND, (1, 2, 3, 4)), (six, (1, 2, 3, 4, 5, 6)),
            ((5, ((1, 3), (1, 4), (2, 4), (2, 5), (3, 5))), (1, 3, 5, 2, 4)),
            # The shortest, though one that is longer begins with less.
            ((9, ((1, 2), (1, 5), (2, 3), (3, 4), (4, 5), (6, 7), (6, 9), (7, 8), (8, 9))), (6, 7, 8, 9)),
            # What has been taken out at first counts for the round of the whole web no less.
            ((6, ((1, 2), (1, 4), (2, 3), (3, 4), (4, 5), (5, 6))), (1, 2, 3, 4)),
            # All of one half tied to all of the other one: the least of three rounds with 1.
            ((5, ((1, 3), (1, 4), (1, 5), (2, 3), (2, 4), (2, 5))), (1, 3, 2, 4)),
        ]:
            self.assert_told(corners, {"web": web}, ("round", told))
            self.assertEqual(web_round_by_trying(web), told)

    def test_orders(self):
        for web, told in [
            (LONE, (1,)), ((3, ()), (3, 2, 1)), (THREE, (3, 2, 1)), ((3, ((1, 2), (1, 3))), (3, 2, 1)),
            ((3, ((1, 3), (2, 3))), (2, 3, 1)), ((4, tuple(all_pairs(4))), (4, 3, 2, 1)),
            ((4, ((1, 4), (2, 4), (3, 4))), (3, 2, 4, 1)),
            ((4, ((1, 2), (1, 3), (1, 4), (2, 3), (3, 4))), (4, 3, 2, 1)),
            ((5, ((1, 5), (2, 5), (3, 5), (4, 5))), (4, 3, 2, 5, 1)),
        ]:
            self.assert_told(corners, {"web": web}, ("order", told))


class TestDirections(Case):
    def assert_walk(self, web, told):
        self.assertEqual(sorted(told), sorted(free_directions(web)))
        for one, other in zip(told, told[1:]):
            self.assertEqual(len([k for k in range(len(one)) if one[k] != other[k]]), 1, web)

    def test_all_of_up_to_four_and_some_of_five(self):
        for web in taken_apart(webs_up_to(4) + all_webs(5)[::7]):
            told = directions(web)
            self.assertEqual(exactly(told), exactly(directions_by_trying(web)), web)
            self.assert_walk(web, told)

    def test_some_of_six(self):
        webs = [web for web in taken_apart(some_webs_of_six()) if len(web[1]) < 10]
        self.assertGreater(len(webs), 10)
        for web in webs:
            told = directions(web)
            self.assertEqual(exactly(told), exactly(directions_by_trying(web)), web)
            self.assert_walk(web, told)

    def test_all_ties_of_six(self):
        web = (6, tuple(all_pairs(6)))
        told = directions(web)
        self.assertEqual(len(set(told)), 720)
        for one, other in zip(told, told[1:]):
            self.assertIs(type(exchanged(web, one, other)), int)

    def test_all_ties_lead_along_the_walk_of_all_orders(self):
        for n in range(1, 6):
            web = (n, tuple(all_pairs(n)))
            led = [
                tuple(tie if order.index(tie[0]) < order.index(tie[1]) else tie[::-1] for tie in web[1])
                for order in walk(ALL, n)
            ]
            self.assertEqual(directions(web), led)

    def test_small_ones(self):
        self.assert_told(directions, {"web": LONE}, [()])
        self.assert_told(directions, {"web": (5, ())}, [()])
        self.assert_told(directions, {"web": (2, ((1, 2),))}, [((1, 2),), ((2, 1),)])
        self.assert_told(
            directions, {"web": (3, ((1, 3), (2, 3)))},
            [((1, 3), (3, 2)), ((1, 3), (2, 3)), ((3, 1), (2, 3)), ((3, 1), (3, 2))])

    def test_lists_are_new_at_each_call(self):
        for web in (LONE, THREE, (4, tuple(all_pairs(4)))):
            self.assert_new_list(directions, web)


class TestHowManyDirections(Case):
    def test_as_many_as_there_are(self):
        for web in taken_apart(webs_up_to(4) + all_webs(5)[::9]):
            self.assert_told(how_many_directions, {"web": web}, len(free_directions(web)))
        for web in taken_apart(some_webs_of_six()):
            self.assertEqual(how_many_directions(web), len(directions(web)))

    def test_some(self):
        for web, told in [
            (LONE, 1), ((6, ()), 1), (THREE, 4), ((6, tuple(all_pairs(6))), 720), ((6, ((1, 2), (3, 4), (5, 6))), 8),
            ((4, ((1, 2), (1, 3), (1, 4), (2, 3), (3, 4))), 18),
        ]:
            self.assert_told(how_many_directions, {"web": web}, told)


class TestExchanged(Case):
    def test_all_pairs_of_directions(self):
        for web in webs_up_to(3) + [ROUND, (4, ((1, 2), (1, 3), (2, 3), (3, 4)))]:
            for one in all_directions(web):
                for other in all_directions(web):
                    unlike = [k for k in range(len(one)) if one[k] != other[k]]
                    told = unlike[0] if len(unlike) == 1 else None
                    self.assertEqual(exactly(exchanged(web, one, other)), exactly(told))

    def test_by_position_and_by_name(self):
        for web, one, other, told in [
            (THREE, ((1, 2), (2, 3)), ((1, 2), (3, 2)), 1), (THREE, ((1, 2), (2, 3)), ((2, 1), (2, 3)), 0),
            (THREE, ((1, 2), (2, 3)), ((2, 1), (3, 2)), None), (THREE, ((1, 2), (2, 3)), ((1, 2), (2, 3)), None),
            (LONE, (), (), None),
        ]:
            self.assert_told(exchanged, {"web": web, "one": one, "other": other}, told)


class TestRoundOf(Case):
    def test_every_direction_of_small_webs(self):
        for web in webs_up_to(4):
            for told in all_directions(web):
                self.assertEqual(exactly(round_of(web, told)), exactly(round_by_trying(web[0], told)), (web, told))

    def test_some_directions_of_five_and_six(self):
        parted = (6, ((1, 2), (1, 4), (1, 6), (2, 3), (3, 4), (4, 5), (5, 6)))
        six = (6, ((1, 2), (1, 6), (2, 3), (3, 4), (4, 5), (5, 6)))
        five = (5, ((1, 3), (1, 4), (2, 4), (2, 5), (3, 5)))
        found = []
        for web, every in [((5, tuple(all_pairs(5))), 5), (parted, 3), (six, 1), (five, 1)]:
            for told in all_directions(web)[::every]:
                found.append(round_by_trying(web[0], told))
                self.assertEqual(exactly(round_of(web, told)), exactly(found[-1]), (web, told))
        for told in all_directions((6, tuple(all_pairs(6))))[::301]:
            self.assertEqual(round_of((6, tuple(all_pairs(6))), told), round_by_trying(6, told))
        self.assertEqual({0 if told is None else len(told) for told in found}, {0, 3, 4, 5, 6})

    def test_by_position_and_by_name(self):
        around = ((1, 2), (4, 1), (2, 3), (3, 4))
        for web, told, led in [
            (LONE, (), None), (THREE, ((2, 1), (2, 3)), None), (ROUND, around, (1, 2, 3, 4)),
            (ROUND, tuple(pair[::-1] for pair in around), (1, 4, 3, 2)), (ROUND, ROUND[1], None),
            ((3, ((1, 2), (1, 3), (2, 3))), ((2, 1), (1, 3), (3, 2)), (1, 3, 2)),
            ((4, tuple(all_pairs(4))), ((1, 2), (1, 3), (4, 1), (2, 3), (4, 2), (3, 4)), (1, 3, 4)),
        ]:
            self.assert_told(round_of, {"web": web, "told": told}, led)

    def test_none_in_what_directions_tell(self):
        for web in taken_apart(all_webs(4)):
            free = directions(web)
            for told in all_directions(web):
                self.assertIs(round_of(web, told) is None, told in free)


class TestErrors(Case):
    def test_no_webs(self):
        for web in NO_WEBS:
            for function in (corners, directions, how_many_directions):
                self.assert_error(function, {"web": web}, InvalidWeb, web)
            self.assert_error(exchanged, {"web": web, "one": (), "other": ()}, InvalidWeb, web)
            self.assert_error(round_of, {"web": web, "told": ()}, InvalidWeb, web)

    def test_no_directions(self):
        right = ((2, 1), (2, 3))
        for told in NO_DIRECTIONS:
            self.assert_error(round_of, {"web": THREE, "told": told}, InvalidThing, told)
            self.assert_error(exchanged, {"web": THREE, "one": told, "other": right}, InvalidThing, told)
            self.assert_error(exchanged, {"web": THREE, "one": right, "other": told}, InvalidThing, told)
        self.assert_error(round_of, {"web": LONE, "told": ((1, 2),)}, InvalidThing, ((1, 2),))
        self.assert_error(round_of, {"web": LONE, "told": []}, InvalidThing, [])

    def test_nearly_directions(self):
        for web in [THREE, ROUND, (2, ((1, 2),))]:
            right = {exactly(told) for told in all_directions(web)}
            for direction in all_directions(web):
                for told in bent(direction):
                    if exactly(told) not in right:
                        self.assert_error(round_of, {"web": web, "told": told}, InvalidThing, told)

    def test_rounds(self):
        refused = 0
        for web in webs_up_to(5) + some_webs_of_six():
            kind, told = corners_by_trying(web)
            if kind == "round":
                refused += 1
                self.assert_error(directions, {"web": web}, HasRound, told)
                self.assert_error(how_many_directions, {"web": web}, HasRound, told)
        self.assertGreater(refused, 100)

    def test_which_is_due(self):
        webs = [("web", told, InvalidWeb, told) for told in (None, [3, ()], (3, [(1, 2)]))]
        wrong = [("one", told, InvalidThing, told) for told in (None, ((1, 2),))]
        wrong += [("other", told, InvalidThing, told) for told in ([], ((2, 1), (3, 1)))]
        right = {"web": THREE, "one": ((1, 2), (2, 3)), "other": ((2, 1), (2, 3))}
        self.assert_due(exchanged, right, webs + wrong)
        wrong = [("told", told, InvalidThing, told) for told in ((), ((1, 2), (2, 3), (1, 3)))]
        self.assert_due(round_of, {"web": THREE, "told": ((1, 2), (2, 3))}, webs + wrong)
        for function in (corners, directions, how_many_directions):
            self.assert_due(function, {"web": THREE}, webs)

    def test_refused_calls_change_no_later_answer(self):
        refused = [
            (directions, (ROUND,)), (how_many_directions, (ROUND,)), (corners, (None,)), (round_of, (THREE, ())),
            (exchanged, (THREE, (), ())), (directions, ([],)),
        ]
        for function in (corners, directions, how_many_directions):
            self.assert_unchanged_by_refused(function, (THREE,), refused)


class TestExample(Case):
    def test_of_the_section(self):
        self.assertEqual(
            [corners(THREE), corners((4, ((1, 2), (1, 4), (2, 3), (3, 4)))), how_many_directions(THREE)],
            [("order", (3, 2, 1)), ("round", (1, 2, 3, 4)), 4],
        )
        self.assertEqual(
            directions(THREE),
            [((1, 2), (2, 3)), ((1, 2), (3, 2)), ((2, 1), (3, 2)), ((2, 1), (2, 3))],
        )


if __name__ == "__main__":
    unittest.main()
