"""What the document promises over the whole program: what one function tells is handed on to others."""

import unittest
from fractions import Fraction

from onejumps.consoles import Console
from onejumps.families import children, count, is_bar, is_saying, is_steady, means, members
from onejumps.hands import hand_walk, stretches, whose
from onejumps.jumps import between, jumped, jumps, least_jump, undone
from onejumps.judges import first_fault, is_small, is_walk
from onejumps.kinds import family, how_many, is_step, is_thing, order_of, thing_of, things
from onejumps.orders import is_order, orders, put, risen, taken_down, turned
from onejumps.places import last_of, next_jump, next_of, nth, place_of, stretch
from onejumps.prices import anew, cost, dearest, saved, walk_cost
from onejumps.readers import read_bar, read_jump, read_order, read_saying, read_thing
from onejumps.tame import failing, is_tame, least_bars, tame_for_ever
from onejumps.texts import show_bar, show_jump, show_order, show_saying, show_thing
from onejumps.walks import by_rule, closes, rule_goes_through, steps, walk
from onejumps.webs import corners, directions, exchanged, how_many_directions, is_web, round_of
from tests.helping import Case, exactly
from tests.sayings import ALL, PARTINGS, TREES, deep_saying, doubled_saying, tame_sayings
from tests.trying_kinds import KINDS
from tests.trying_webs import all_webs

WEB = (4, ((1, 2), (1, 3), (2, 3), (3, 4)))
PRICES = ((0, 1), (1, 2), (2, 3), (5, 4), (1, 1))


def lists_told():
    """Each function of the interface that returns a list, with arguments."""
    console = Console()
    console.keep("b", TREES)
    console.keep("a", ALL)
    return [
        (orders, (3,)), (jumps, ((2, 1, 3),)), (members, (TREES, 3)), (walk, (TREES, 3)), (steps, (TREES, 3)),
        (by_rule, (TREES, 3)), (stretch, (TREES, 3, 1, 3)), (things, ("signs", 3)), (things, ("partings", 3)),
        (things, ("trees", 3)), (things, ("polygons", 3)), (directions, (WEB,)), (hand_walk, (TREES, 3, 2, 0)),
        (console.names, ()),
    ]


def has_list_or_odd(value):
    """Whether something within a list that is told is a list, a truth or anything but tuples, integers and texts."""
    if type(value) is tuple:
        return any(has_list_or_odd(part) for part in value)
    return type(value) not in (int, str)


class TestWalksHandedOn(Case):
    def sayings(self):
        return tame_sayings() + [family(kind) for kind in KINDS] + [doubled_saying(PARTINGS, 3)]

    def test_walks_jumps_and_places(self):
        for saying in self.sayings():
            for n in (1, 2, 4, 5):
                told = walk(saying, n)
                self.assertIs(is_walk(saying, n, told), True)
                self.assertIs(first_fault(saying, n, by_rule(saying, n)), None)
                self.assertIs(rule_goes_through(saying, n), True)
                self.assertEqual(sorted(told), members(saying, n))
                self.assertEqual((len(told), told[0]), (count(saying, n), risen(n)))
                order = told[0]
                for jump in steps(saying, n):
                    self.assertEqual(next_jump(saying, order), jump)
                    self.assertIn(jump, jumps(order))
                    there = jumped(order, *jump)
                    self.assertEqual(between(there, order), undone(jump))
                    self.assertEqual(jumped(there, *undone(jump)), order)
                    order = there
                self.assertEqual(order, told[-1])
                self.assertEqual(closes(saying, n), n > 1 and between(told[-1], told[0]) is not None)

    def test_steps_are_least_jumps(self):
        for saying in self.sayings():
            told = walk(saying, 4)
            for one, other in zip(told, told[1:]):
                thing, over = between(one, other)
                self.assertEqual(least_jump(saying, one, thing, 1 if over > 0 else -1), other)

    def test_taken_down_and_put_lead_between_walks(self):
        for saying in self.sayings():
            self.assertIs(is_tame(saying, 5), True)
            for order in walk(saying, 4):
                self.assertIs(means(saying, taken_down(order)), True)
                below = taken_down(order)
                self.assertIn(order, [put(below, place) for place in children(saying, below)])
                self.assertEqual(children(saying, order)[:1] + children(saying, order)[-1:], (0, 4))

    def test_there_and_back_by_places(self):
        for saying in self.sayings()[::2]:
            told = walk(saying, 4)
            for i, order in enumerate(told):
                self.assertEqual(nth(saying, 4, i), order)
                self.assertEqual(place_of(saying, order), i)
                behind = next_of(saying, order)
                self.assertEqual(None if behind is None else last_of(saying, behind), order if behind else None)

    def test_hands(self):
        for saying in self.sayings()[::3]:
            for hands in (1, 4, 9):
                told = []
                for hand, (first, many) in enumerate(stretches(saying, 4, hands)):
                    if many:
                        self.assertEqual(stretch(saying, 4, first, many), hand_walk(saying, 4, hands, hand))
                        self.assertEqual(whose(saying, hands, nth(saying, 4, first)), hand)
                    told += hand_walk(saying, 4, hands, hand)
                self.assertIs(is_walk(saying, 4, told), True)

    def test_prices(self):
        for saying in self.sayings():
            costs = [Fraction(*cost(PRICES, jump)) for jump in steps(saying, 5)]
            self.assertEqual(Fraction(*walk_cost(saying, PRICES)), sum(costs))
            self.assertEqual(Fraction(*saved(saying, PRICES)), 1 - sum(costs) / Fraction(*anew(saying, PRICES)))
            told, i = dearest(saying, PRICES)
            jump = next_jump(saying, nth(saying, 5, i - 1))
            self.assertEqual(cost(PRICES, jump), told)

    def test_what_prices_tell_is_handed_on_as_prices(self):
        told = (walk_cost(TREES, PRICES), anew(TREES, PRICES), cost(PRICES, (3, 2)), saved(TREES, ((1, 1),) * 3))
        self.assertIs(type(anew(TREES, told)), tuple)


class TestKindsAndWebsHandedOn(Case):
    def test_kinds(self):
        for kind in KINDS:
            self.assertIs(is_saying(family(kind)) and is_steady(family(kind)), True)
            self.assertIs(tame_for_ever(family(kind)[1]) if kind != "partings" else True, True)
            for n in (1, 2, 3, 5):
                told = things(kind, n)
                self.assertEqual([order_of(kind, n, thing) for thing in told], walk(family(kind), n))
                self.assertEqual([thing_of(kind, order) for order in walk(family(kind), n)], told)
                self.assertEqual(how_many(kind, n), len(told))
                for one, other in zip(told, told[1:]):
                    self.assertIs(is_step(kind, n, one, other) and is_thing(kind, n, one), True)

    def test_webs(self):
        for web in all_webs(4):
            self.assertIs(is_web(web), True)
            if corners(web)[0] == "round":
                continue
            told = directions(web)
            self.assertEqual(len(told), how_many_directions(web))
            for one, other in zip(told, told[1:]):
                self.assertIs(type(exchanged(web, one, other)), int)
                self.assertIs(round_of(web, one), None)
                self.assertIs(exchanged(web, one, one), None)


class TestTextsHandedOn(Case):
    def test_what_is_shown_is_read_back(self):
        for saying in tame_sayings():
            self.assertEqual(exactly(read_saying(show_saying(saying))), exactly(saying))
            for order in walk(saying, 4):
                self.assertEqual(read_order(show_order(order)), order)
            for jump in steps(saying, 4):
                self.assertEqual(read_jump(show_jump(jump)), jump)
        for kind in KINDS:
            for bar in family(kind)[1]:
                self.assertEqual(read_bar(show_bar(bar)), bar)
                self.assertIs(is_bar(read_bar(show_bar(bar))), True)
            for thing in things(kind, 5):
                self.assertEqual(exactly(read_thing(kind, show_thing(kind, thing))), exactly(thing))

    def test_what_a_console_answers_is_handed_on(self):
        console = Console()
        for saying in tame_sayings():
            console.keep("a", saying)
            self.assertEqual(read_saying(console.order("show a")), saying)
            told = [read_order(line) for line in console.order("walk a 4").split("\n")]
            self.assertIs(is_walk(console.saying("a"), 4, told), True)
            order = console.order("nth a 4 0")
            passed = [order]
            while console.order(f"next a {order}") != "none":
                thing, over = read_jump(console.order(f"jump a {order}"))
                order = console.order(f"next a {order}")
                self.assertEqual(jumped(read_order(passed[-1]), thing, over), read_order(order))
                passed.append(order)
            self.assertEqual("\n".join(passed), console.order("walk a 4"))
            self.assertEqual(str(len(passed)), console.order("count a 4"))

    def test_bars_that_are_least(self):
        bars = (((2, 3, 1), None), ((2, 3, 1, 4), None), ((1, 3, 2), None))
        told = least_bars(bars)
        least = ("list", tuple((pattern, None) for pattern in told))
        self.assertEqual(walk(least, 5), walk(("list", bars), 5))
        self.assertIs(failing(least, 5), None)
        self.assertTrue(all(is_order(pattern) and turned(turned(pattern)) == pattern for pattern in told))


class TestWhatIsTold(Case):
    def test_lists_hold_tuples_integers_and_texts_alone(self):
        for function, arguments in lists_told():
            told = function(*arguments)
            self.assertIs(type(told), list)
            self.assertFalse(any(has_list_or_odd(part) for part in told), function)

    def test_lists_are_new_and_whoever_changes_them_changes_nothing(self):
        before = [exactly(function(*arguments)) for function, arguments in lists_told()]
        for function, arguments in lists_told():
            self.assert_new_list(function, *arguments)
            told = function(*arguments)
            told.clear()
        self.assertEqual([exactly(function(*arguments)) for function, arguments in lists_told()], before)

    def test_truths_are_truths(self):
        for told in [
            is_order((1,)), is_bar(None), is_saying(ALL), is_steady(TREES), means(TREES, (1,)), is_tame(TREES, 2),
            tame_for_ever(()), rule_goes_through(TREES, 3), closes(TREES, 3), is_walk(TREES, 1, []), is_small([]),
            is_thing("trees", 1, ()), is_thing("signs", 2, (1,)), is_thing("partings", 2, ((1, 2),)),
            is_thing("polygons", 2, ((0, 2),)), is_step("trees", 1, ((), ()), ((), ())), is_step("signs", 2, (1,), (0,)),
            is_step("partings", 2, ((1, 2),), ((1,), (2,))), is_web(None), is_web(WEB),
        ]:
            self.assertIs(type(told), bool)

    def test_answers_are_the_same_each_time(self):
        saying = deep_saying(("either", "both"), True)
        for function, arguments in [(walk, (saying, 5)), (members, (saying, 5)), (things, ("partings", 5))]:
            self.assertEqual(function(*arguments), function(*arguments))


class TestExamples(Case):
    def test_of_all_sections(self):
        # The other tests have each section's own; these names go from one section to the next in the document.
        trees, partings = TREES, PARTINGS
        self.assertEqual([count(trees, 5), count(partings, 5)], [42, 52])
        self.assertEqual(by_rule(trees, 3), walk(trees, 3))
        self.assertIs(is_walk(trees, 3, walk(trees, 3)), True)
        self.assertEqual(show_saying(partings), "(list [1 3*2])")
        self.assertEqual(walk_cost(trees, ((1, 1), (1, 1), (1, 1))), (5, 1))


if __name__ == "__main__":
    unittest.main()
