"""That no answer takes long, of sayings as large as the document lets them be."""

import unittest
from time import perf_counter

from onejumps.errors import NotMeant, NotTame
from onejumps.families import children, count, is_steady, means, members
from onejumps.places import last_of, next_jump, next_of, nth, place_of, stretch
from onejumps.tame import failing, is_tame
from onejumps.walks import by_rule, closes, rule_goes_through, steps, walk
from tests.sayings import ALL, PARTINGS, TREES, deep_saying, doubled_saying

SECONDS = 2
WORDS = [("both", "either"), ("either", "both"), ("both", "both"), ("either", "either")]
RISEN = (1, 2, 3, 4, 5, 6)


class TestSpeed(unittest.TestCase):
    def assert_soon(self, function, *arguments):
        start = perf_counter()
        try:
            function(*arguments)
        except (NotMeant, NotTame):
            # A refusal takes as long as an answer.
            pass
        self.assertLess(perf_counter() - start, SECONDS, (function.__name__, arguments))

    def assert_all_soon(self, saying):
        for function in (members, count, failing, is_tame, walk, steps, by_rule, rule_goes_through, closes):
            self.assert_soon(function, saying, 6)
        for function in (means, children, place_of, next_of, last_of, next_jump):
            self.assert_soon(function, saying, RISEN)
        self.assert_soon(is_steady, saying)
        self.assert_soon(nth, saying, 6, 0)
        self.assert_soon(stretch, saying, 6, 0, 720)

    def test_four_deep_with_lists_of_four_bars_of_five_things(self):
        for words in WORDS:
            for steady in (True, False):
                self.assert_all_soon(deep_saying(words, steady))

    def test_twelve_deep_with_parts_that_are_alike(self):
        for saying in (TREES, ALL, ("list", (((5, 2, 3, 1, 4), None), ((3, 1, 5, 2, 4), 2)))):
            self.assert_all_soon(doubled_saying(saying, 12))

    def test_small_sayings(self):
        for saying in (ALL, TREES, PARTINGS):
            self.assert_all_soon(saying)

    def test_seven_things(self):
        for saying in (ALL, TREES, deep_saying(("both", "either"), False)):
            self.assert_soon(members, saying, 7)
            self.assert_soon(count, saying, 7)

    def test_orders_of_twelve(self):
        order = (12, 11, 3, 1, 2, 10, 9, 4, 6, 8, 7, 5)
        self.assert_soon(means, deep_saying(("either", "both"), True), order)
        self.assert_soon(children, ALL, order)
        self.assert_soon(children, deep_saying(("either", "either"), True), order)


if __name__ == "__main__":
    unittest.main()
