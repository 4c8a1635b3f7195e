"""That no answer takes long, of sayings as large as the document lets them be."""

import unittest
from time import perf_counter

from onejumps.errors import HasRound, NotMeant, NotTame, Unreadable
from onejumps.families import children, count, is_steady, means, members
from onejumps.hands import hand_walk, stretches, whose
from onejumps.judges import first_fault, is_small, is_walk
from onejumps.kinds import how_many, is_step, is_thing, order_of, thing_of, things
from onejumps.places import last_of, next_jump, next_of, nth, place_of, stretch
from onejumps.prices import anew, dearest, saved, walk_cost
from onejumps.readers import read_saying, read_thing
from onejumps.tame import failing, is_tame
from onejumps.texts import show_saying, show_thing
from onejumps.walks import by_rule, closes, rule_goes_through, steps, walk
from onejumps.webs import corners, directions, exchanged, how_many_directions, round_of
from tests.sayings import ALL, PARTINGS, TREES, deep_saying, doubled_saying
from tests.trying_kinds import KINDS
from tests.trying_webs import all_pairs

SECONDS = 2
WORDS = [("both", "either"), ("either", "both"), ("both", "both"), ("either", "either")]
RISEN = (1, 2, 3, 4, 5, 6)


class TestSpeed(unittest.TestCase):
    def assert_soon(self, function, *arguments):
        start = perf_counter()
        try:
            function(*arguments)
        except (HasRound, NotMeant, NotTame, Unreadable):
            # A refusal takes as long as an answer.
            pass
        self.assertLess(perf_counter() - start, SECONDS, (function.__name__, arguments))

    def assert_all_soon(self, saying):
        for function in (members, count, failing, is_tame, walk, steps, by_rule, rule_goes_through, closes):
            self.assert_soon(function, saying, 6)
        for function in (means, children, place_of, next_of, last_of, next_jump):
            self.assert_soon(function, saying, RISEN)
        self.assert_soon(is_steady, saying)
        self.assert_soon(nth, saying, 6, 0)
        self.assert_soon(stretch, saying, 6, 0, 720)
        self.assert_soon(stretches, saying, 6, 50)
        self.assert_soon(hand_walk, saying, 6, 50, 49)
        self.assert_soon(whose, saying, 50, RISEN)
        prices = tuple((10 ** 9, 7 ** k) for k in range(6))
        for function in (walk_cost, anew, saved, dearest):
            self.assert_soon(function, saying, prices)
        for function in (is_walk, first_fault):
            self.assert_soon(function, saying, 6, walk(ALL, 6))

    def test_four_deep_with_lists_of_four_bars_of_five_things(self):
        for words in WORDS:
            for steady in (True, False):
                self.assert_all_soon(deep_saying(words, steady))

    def test_twelve_deep_with_parts_that_are_alike(self):
        for saying in (TREES, ALL, ("list", (((5, 2, 3, 1, 4), None), ((3, 1, 5, 2, 4), 2)))):
            self.assert_all_soon(doubled_saying(saying, 12))

    def test_small_sayings(self):
        for saying in (ALL, TREES, PARTINGS):
            self.assert_all_soon(saying)

    def test_seven_things(self):
        for saying in (ALL, TREES, deep_saying(("both", "either"), False)):
            self.assert_soon(members, saying, 7)
            self.assert_soon(count, saying, 7)

    def test_orders_of_twelve(self):
        order = (12, 11, 3, 1, 2, 10, 9, 4, 6, 8, 7, 5)
        self.assert_soon(means, deep_saying(("either", "both"), True), order)
        self.assert_soon(children, ALL, order)
        self.assert_soon(children, deep_saying(("either", "either"), True), order)

    def test_walks_that_are_judged(self):
        self.assert_soon(is_small, walk(ALL, 6))
        self.assert_soon(is_walk, ALL, 6, walk(ALL, 6))
        self.assert_soon(first_fault, ALL, 6, walk(ALL, 6)[:-1])

    def test_kinds(self):
        for kind in KINDS:
            self.assert_soon(things, kind, 6)
            self.assert_soon(how_many, kind, 40)
            thing = thing_of(kind, (8, 7, 6, 5, 4, 3, 2, 1))
            other = thing_of(kind, (1, 2, 3, 4, 5, 6, 7, 8))
            self.assert_soon(thing_of, kind, (8, 7, 6, 5, 4, 3, 2, 1))
            self.assert_soon(is_thing, kind, 8, thing)
            self.assert_soon(order_of, kind, 8, thing)
            self.assert_soon(is_step, kind, 8, thing, other)

    def test_webs_of_six(self):
        pairs = tuple(all_pairs(6))
        for web in [(6, pairs), (6, pairs[:8]), (6, pairs[::2]), (6, pairs[1:])]:
            turned = tuple(tie[::-1] for tie in web[1])
            self.assert_soon(corners, web)
            self.assert_soon(directions, web)
            self.assert_soon(how_many_directions, web)
            self.assert_soon(exchanged, web, web[1], turned)
            self.assert_soon(round_of, web, web[1])
            self.assert_soon(round_of, web, turned)

    def test_texts_of_the_largest(self):
        forty = tuple(range(40, 0, -1))
        bars = ("list", ((forty, None),) * 20)
        for saying in (doubled_saying(TREES, 12), doubled_saying(bars, 6)):
            self.assert_soon(show_saying, saying)
            self.assert_soon(read_saying, show_saying(saying))
            self.assert_soon(read_saying, show_saying(saying)[:-1])
        for kind in KINDS:
            thing = thing_of(kind, forty)
            self.assert_soon(show_thing, kind, thing)
            self.assert_soon(read_thing, kind, show_thing(kind, thing))


if __name__ == "__main__":
    unittest.main()
