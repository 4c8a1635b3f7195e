import unittest

from onejumps.errors import InvalidKind, InvalidNumber, InvalidOrder, InvalidThing, NotMeant
from onejumps.families import count, is_steady, means
from onejumps.kinds import family, how_many, is_step, is_thing, order_of, thing_of, things
from onejumps.tame import is_tame
from onejumps.walks import walk
from tests.helping import NO_COUNTS, NO_KINDS, NO_ORDERS, Case, bent, exactly
from tests.trying import members_by_trying, orders_up_to, walk_by_trying
from tests.trying_kinds import KINDS, all_things, order_by_trying, steps_by_trying

FAMILIES = {
    "signs": ("list", (((1, 3, 2), None), ((2, 3, 1), None))),
    "partings": ("list", (((1, 3, 2), 1),)),
    "trees": ("list", (((2, 3, 1), None),)),
    "polygons": ("list", (((2, 3, 1), None),)),
}

RIGHT = {"signs": (0, 1), "partings": ((1, 3), (2,)), "trees": ((), (((), ()), ())), "polygons": ((0, 2), (0, 3))}
OTHER = {"signs": (1, 1), "partings": ((1,), (2,), (3,)), "trees": ((), ((), ((), ()))), "polygons": ((0, 3), (1, 3))}
NO_THINGS = [None, True, 0, "", "1", [], {}, (None,), ([],), ("",), ((0, 0),), ((((), ()),),), (2, 2)]


def deep(many):
    """A tree with so many knots, each the right one of the one above."""
    tree = ()
    for _ in range(many):
        tree = ((), tree)
    return tree


def broad(deepness):
    """A tree of which each knot down to so deep has two trees."""
    tree = ()
    for _ in range(deepness):
        tree = (tree, tree)
    return tree


class TestIsThing(Case):
    def test_all_of_them_are(self):
        for kind in KINDS:
            for n in range(1, 7):
                for thing in all_things(kind, n):
                    self.assertIs(is_thing(kind, n, thing), True, (kind, n, thing))
                    self.assertIs(is_thing(kind, n + 1, thing), False, (kind, n, thing))
                    if n > 1:
                        self.assertIs(is_thing(kind, n - 1, thing), False, (kind, n, thing))

    def test_nearly_things(self):
        for kind in KINDS:
            for n in range(1, 5):
                right = {exactly(thing) for thing in all_things(kind, n)}
                for thing in all_things(kind, n):
                    for told in bent(thing):
                        self.assertIs(is_thing(kind, n, told), exactly(told) in right, (kind, n, told))

    def test_by_position_and_by_name(self):
        for kind in KINDS:
            self.assert_told(is_thing, {"kind": kind, "n": 3, "told": RIGHT[kind]}, True)
            for told in NO_THINGS:
                self.assert_told(is_thing, {"kind": kind, "n": 3, "told": told}, False)

    def test_of_one(self):
        for kind, thing in [("signs", ()), ("partings", ((1,),)), ("trees", ((), ())), ("polygons", ())]:
            self.assert_told(is_thing, {"kind": kind, "n": 1, "told": thing}, True)
        self.assertIs(is_thing("partings", 1, ()), False)
        self.assertIs(is_thing("trees", 1, ()), False)

    def test_signs_that_are_none(self):
        for told in [(True, 0), (0, False), (0, 2), (-1, 0), (0, None), ("0", "1"), "01", [0, 1], (0,), (0, 1, 1), 1]:
            self.assertIs(is_thing("signs", 3, told), False, told)

    def test_partings_that_are_none(self):
        for told in [
            ((1, 2), (4,)), ((1, 2), (2, 3)), ((1, 1, 2), (3,)), ((2, 1), (3,)), ((2,), (1, 3)), ((1, 2),), ((1, 2, 3, 4),),
            ((1, 2), (3,), ()), ((), (1, 2, 3)), ([1, 2], (3,)), ((1, 2), [3]), [(1, 2), (3,)], ((True, 2), (3,)),
            ((0, 1), (2,)), (1, 2, 3), ((1, 2), 3), ((1, 2), ("3",)), ((1, 2), (None,)), ((1, 2), ((3,),)), "123",
        ]:
            self.assertIs(is_thing("partings", 3, told), False, told)

    def test_polygons_that_are_none(self):
        for told in [
            ((0, 2),), ((0, 2), (0, 2)), ((0, 3), (0, 2)), ((0, 2), (1, 3)), ((0, 2), (0, 4)), ((0, 1), (0, 2)),
            ((0, 2), (2, 5)), ((-1, 2), (0, 2)), ((0, 2), (3, 0)), ((0, 2), (4, 2)), ((0, 2), (2, 3)), ((0, 2), (2, 2)),
            [(0, 2), (0, 3)], ((0, 2), [0, 3]), ((0, 2), (0, 3, 3)), ((0, 2), (0,)), ((0, 2), 3), ((False, 2), (0, 3)),
            ((0, 2), ("0", 3)), ((0, 2), (None, None)), ((0, 2), (0, 3), (0, 4)),
        ]:
            self.assertIs(is_thing("polygons", 3, told), False, told)
        self.assertIs(is_thing("polygons", 4, ((0, 2), (0, 3), (3, 5))), True)
        self.assertIs(is_thing("polygons", 4, ((0, 2), (1, 3), (3, 5))), False)

    def test_deep_and_broad_trees(self):
        for told, knots in [(deep(8), 8), (deep(40), 40), (broad(3), 7), (deep(4000), 4000)]:
            for n in (1, 7, 8, 40, 4000):
                self.assertIs(is_thing("trees", n, told), n == knots)
        self.assertIs(is_thing("trees", 8, broad(200)), False)
        self.assertIs(is_thing("trees", 3, ((), ((), ((),)))), False)
        self.assertIs(is_thing("trees", 3, ((), ((), [(), ()]))), False)
        self.assertIs(is_thing("trees", 2, ((), ((), 0))), False)
        self.assertIs(is_thing("trees", 2, ((), ((), None))), False)

    def test_a_number_far_too_great(self):
        for kind in KINDS:
            self.assertIs(is_thing(kind, 10 ** 15, RIGHT[kind]), False)


class TestFamily(Case):
    def test_each(self):
        for kind in KINDS:
            self.assert_told(family, {"kind": kind}, FAMILIES[kind])

    def test_they_are_steady_and_tame(self):
        for kind in KINDS:
            self.assertIs(is_steady(family(kind)), True)
            self.assertIs(is_tame(family(kind), 6), True)


class TestThereAndBack(Case):
    def test_each_thing_of_up_to_six(self):
        for kind in KINDS:
            for n in range(1, 7):
                led = set()
                for thing in all_things(kind, n):
                    order = order_by_trying(kind, n, thing)
                    self.assertEqual(exactly(order_of(kind, n, thing)), exactly(order), (kind, n, thing))
                    self.assertEqual(exactly(thing_of(kind, order)), exactly(thing), (kind, n, order))
                    led.add(order)
                self.assertEqual(sorted(led), list(members_by_trying(FAMILIES[kind], n)))

    def test_some_of_eight(self):
        for kind in ("signs", "partings", "trees"):
            for thing in all_things(kind, 8)[::41]:
                order = order_by_trying(kind, 8, thing)
                self.assertEqual(order_of(kind, 8, thing), order)
                self.assertEqual(exactly(thing_of(kind, order)), exactly(thing))
        for thing in [tuple((0, k) for k in range(2, 9)), ((0, 2), (0, 4), (0, 6), (0, 8), (2, 4), (4, 6), (6, 8))]:
            self.assertEqual(thing_of("polygons", order_of("polygons", 8, thing)), thing)
            self.assertEqual(order_of("polygons", 8, thing), order_by_trying("polygons", 8, thing))

    def test_some(self):
        for kind, n, thing, order in [
            ("signs", 4, (1, 0, 0), (2, 1, 3, 4)), ("signs", 4, (0, 1, 1), (4, 3, 1, 2)), ("signs", 1, (), (1,)),
            ("partings", 4, ((1, 4), (2, 3)), (2, 3, 1, 4)), ("partings", 3, ((1, 3), (2,)), (2, 1, 3)),
            ("partings", 1, ((1,),), (1,)), ("trees", 1, ((), ()), (1,)),
            ("trees", 3, (((), ()), ((), ())), (2, 1, 3)), ("trees", 3, (((), ((), ())), ()), (3, 1, 2)),
            ("polygons", 1, (), (1,)), ("polygons", 2, ((1, 3),), (1, 2)), ("polygons", 3, ((0, 2), (2, 4)), (2, 1, 3)),
        ]:
            self.assert_told(order_of, {"kind": kind, "n": n, "thing": thing}, order)
            self.assert_told(thing_of, {"kind": kind, "order": order}, thing)


class TestThings(Case):
    def test_in_the_sequence_of_the_walk(self):
        for kind in KINDS:
            for n in range(1, 7):
                told = things(kind, n)
                self.assertEqual(sorted(map(exactly, told)), sorted(map(exactly, all_things(kind, n))))
                led = [order_by_trying(kind, n, thing) for thing in told]
                self.assertEqual(led, list(walk_by_trying(FAMILIES[kind], n)), (kind, n))
                self.assertEqual(led, walk(family(kind), n))

    def test_neighbours_are_one_smallest_step_apart(self):
        for kind in KINDS:
            for n in range(1, 7):
                told = things(kind, n)
                for one, other in zip(told, told[1:]):
                    self.assertIn(other, steps_by_trying(kind, n, one), (kind, n))
                    self.assertIs(is_step(kind, n, one, other), True)

    def test_small_ones(self):
        self.assert_told(things, {"kind": "signs", "n": 1}, [()])
        self.assert_told(things, {"kind": "partings", "n": 2}, [((1, 2),), ((1,), (2,))])
        self.assert_told(things, {"kind": "trees", "n": 2}, [((), ((), ())), (((), ()), ())])
        self.assert_told(things, {"kind": "polygons", "n": 2}, [((1, 3),), ((0, 2),)])

    def test_lists_are_new_at_each_call(self):
        for kind in KINDS:
            for n in (1, 3):
                self.assert_new_list(things, kind, n)


class TestIsStep(Case):
    def test_all_pairs_of_few(self):
        for kind in KINDS:
            for n in range(1, 5 if kind == "partings" else 6):
                for one in all_things(kind, n):
                    for other in all_things(kind, n):
                        told = other in steps_by_trying(kind, n, one)
                        self.assertIs(is_step(kind, n, one, other), told, (kind, one, other))

    def test_none_from_a_thing_to_itself(self):
        for kind in KINDS:
            for n in range(1, 6):
                for thing in all_things(kind, n):
                    self.assertIs(is_step(kind, n, thing, thing), False)

    def test_some_of_eight(self):
        for kind in ("partings", "trees"):
            for one in all_things(kind, 8)[::331]:
                near = steps_by_trying(kind, 8, one)
                for other in list(near) + list(all_things(kind, 8)[::97]):
                    self.assertIs(is_step(kind, 8, one, other), other in near, (one, other))

    def test_by_position_and_by_name(self):
        for kind, n, one, other, told in [
            ("signs", 3, (0, 1), (1, 1), True), ("signs", 3, (0, 1), (1, 0), False), ("signs", 1, (), (), False),
            ("partings", 3, ((1, 2), (3,)), ((1,), (2, 3)), True),
            ("partings", 3, ((1, 2), (3,)), ((1, 2, 3),), True),
            ("partings", 4, ((1, 2), (3, 4)), ((1, 3), (2, 4)), False),
            ("partings", 4, ((1, 2, 3, 4),), ((1, 2), (3, 4)), False),
            ("partings", 3, ((1,), (2, 3)), ((1, 3), (2,)), True),
            ("trees", 3, ((), ((), ((), ()))), ((), (((), ()), ())), True),
            ("trees", 3, ((), ((), ((), ()))), ((((), ()), ()), ()), False),
            ("polygons", 3, ((0, 2), (0, 3)), ((0, 2), (2, 4)), True),
            ("polygons", 4, ((0, 2), (0, 3), (0, 4)), ((1, 3), (1, 4), (1, 5)), False),
        ]:
            self.assert_told(is_step, {"kind": kind, "n": n, "one": one, "other": other}, told)
            self.assert_told(is_step, {"kind": kind, "n": n, "one": other, "other": one}, told)


class TestHowMany(Case):
    def test_as_many_as_there_are(self):
        for kind in KINDS:
            for n in range(1, 7):
                self.assert_told(how_many, {"kind": kind, "n": n}, len(all_things(kind, n)))
                self.assertEqual(how_many(kind, n), count(family(kind), n))
                self.assertEqual(how_many(kind, n), len(things(kind, n)))
        for kind in ("signs", "partings", "trees"):
            self.assertEqual(how_many(kind, 9), len(all_things(kind, 9)))

    def test_up_to_forty_by_counting(self):
        partings = [1]
        trees = [1]
        for n in range(1, 43):
            # The lot of the thing 1 has so many others; the top knot has so many on its left.
            picks = [1]
            for k in range(1, n):
                picks.append(picks[-1] * (n - k) // k)
            partings.append(sum(picks[k] * partings[n - 1 - k] for k in range(n)))
            trees.append(sum(trees[k] * trees[n - 1 - k] for k in range(n)))
            self.assertEqual(how_many("signs", n), 2 ** (n - 1))
            self.assertEqual(how_many("partings", n), partings[n])
            self.assertEqual(how_many("trees", n), trees[n])
            self.assertEqual(how_many("polygons", n), trees[n])
        self.assertEqual(how_many("trees", 40), 2622127042276492108820)
        self.assertEqual(how_many("partings", 10), 115975)


class TestErrors(Case):
    def test_no_kinds(self):
        for kind in NO_KINDS:
            self.assert_error(family, {"kind": kind}, InvalidKind, kind)
            self.assert_error(is_thing, {"kind": kind, "n": 0, "told": None}, InvalidKind, kind)
            self.assert_error(order_of, {"kind": kind, "n": 1, "thing": ()}, InvalidKind, kind)
            self.assert_error(thing_of, {"kind": kind, "order": (1,)}, InvalidKind, kind)
            self.assert_error(things, {"kind": kind, "n": 3}, InvalidKind, kind)
            self.assert_error(is_step, {"kind": kind, "n": 1, "one": (), "other": ()}, InvalidKind, kind)
            self.assert_error(how_many, {"kind": kind, "n": 3}, InvalidKind, kind)

    def test_no_numbers(self):
        for kind in KINDS:
            for n in NO_COUNTS:
                self.assert_error(is_thing, {"kind": kind, "n": n, "told": RIGHT[kind]}, InvalidNumber, n)
                self.assert_error(order_of, {"kind": kind, "n": n, "thing": RIGHT[kind]}, InvalidNumber, n)
                self.assert_error(things, {"kind": kind, "n": n}, InvalidNumber, n)
                told = {"kind": kind, "n": n, "one": RIGHT[kind], "other": OTHER[kind]}
                self.assert_error(is_step, told, InvalidNumber, n)
                self.assert_error(how_many, {"kind": kind, "n": n}, InvalidNumber, n)

    def test_no_things(self):
        for kind in KINDS:
            right = {exactly(thing) for thing in all_things(kind, 3)}
            for told in NO_THINGS + bent(RIGHT[kind]):
                if exactly(told) in right:
                    continue
                self.assert_error(order_of, {"kind": kind, "n": 3, "thing": told}, InvalidThing, told)
                one = {"kind": kind, "n": 3, "one": told, "other": RIGHT[kind]}
                self.assert_error(is_step, one, InvalidThing, told)
                other = {"kind": kind, "n": 3, "one": RIGHT[kind], "other": told}
                self.assert_error(is_step, other, InvalidThing, told)
            for n in (2, 4):
                self.assert_error(order_of, {"kind": kind, "n": n, "thing": RIGHT[kind]}, InvalidThing, RIGHT[kind])

    def test_no_orders_and_orders_that_are_not_meant(self):
        for kind in KINDS:
            for told in NO_ORDERS:
                self.assert_error(thing_of, {"kind": kind, "order": told}, InvalidOrder, told)
            for order in orders_up_to(5):
                if order not in members_by_trying(FAMILIES[kind], len(order)):
                    self.assertIs(means(family(kind), order), False)
                    self.assert_error(thing_of, {"kind": kind, "order": order}, NotMeant, order)

    def test_which_is_due(self):
        kinds = [("kind", told, InvalidKind, told) for told in (None, "tree", ["trees"])]
        numbers = [("n", told, InvalidNumber, told) for told in (0, True)]
        for kind in KINDS:
            wrong = [("thing", told, InvalidThing, told) for told in (None, [RIGHT[kind]])]
            right = {"kind": kind, "n": 3, "thing": RIGHT[kind]}
            self.assert_due(order_of, right, kinds + numbers + wrong)
            wrong = [("one", told, InvalidThing, told) for told in (None, ["one"])]
            wrong += [("other", told, InvalidThing, told) for told in ("", ["other"])]
            right = {"kind": kind, "n": 3, "one": RIGHT[kind], "other": OTHER[kind]}
            self.assert_due(is_step, right, kinds + numbers + wrong)
            wrong = [("order", told, InvalidOrder, told) for told in (None, (1, 1))]
            self.assert_due(thing_of, {"kind": kind, "order": (1, 2)}, kinds + wrong)
            for function in (things, how_many):
                self.assert_due(function, {"kind": kind, "n": 3}, kinds + numbers)
            self.assert_due(is_thing, {"kind": kind, "n": 3, "told": None}, kinds + numbers)

    def test_refused_calls_change_no_later_answer(self):
        for kind in KINDS:
            refused = [
                (things, (kind, 0)), (order_of, (kind, 3, None)), (thing_of, (kind, (1, 1))), (family, ("kind",)),
                (is_step, (kind, 3, RIGHT[kind], None)), (how_many, (kind, -1)), (is_thing, (None, 3, RIGHT[kind])),
            ]
            for function, arguments in [
                (things, (kind, 4)), (order_of, (kind, 3, RIGHT[kind])), (thing_of, (kind, (3, 1, 2))),
                (is_step, (kind, 3, RIGHT[kind], OTHER[kind])), (how_many, (kind, 7)), (family, (kind,)),
            ]:
                self.assert_unchanged_by_refused(function, arguments, refused)


class TestExample(Case):
    def test_of_the_section(self):
        self.assertEqual(
            [things("signs", 3), things("partings", 3)],
            [[(0, 0), (0, 1), (1, 1), (1, 0)],
             [((1, 2, 3),), ((1, 2), (3,)), ((1,), (2,), (3,)), ((1,), (2, 3)), ((1, 3), (2,))]],
        )
        self.assertEqual(
            [thing_of("trees", (2, 1, 3)), order_of("polygons", 2, ((0, 2),)),
             is_step("trees", 2, ((), ((), ())), (((), ()), ())), how_many("trees", 5)],
            [(((), ()), ((), ())), (2, 1), True, 42],
        )


if __name__ == "__main__":
    unittest.main()
