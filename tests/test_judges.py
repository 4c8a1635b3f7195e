import unittest

from onejumps.errors import InvalidNumber, InvalidSaying, InvalidWalk
from onejumps.judges import first_fault, is_small, is_walk
from onejumps.walks import by_rule, walk
from tests.helping import NO_COUNTS, NO_ORDERS, NO_SAYINGS, Case
from tests.sayings import (
    ALL, NONE_OF_TWO, PARTINGS, RISING, TREES, deep_saying, doubled_saying, some_sayings, tame_sayings, wild_sayings,
)
from tests.trying import (
    all_orders, failing_by_trying, jumps_by_trying, members_by_trying, rule_by_trying, walk_by_trying,
)

NO_WALKS = [None, True, False, 0, 3, "", "12", b"\x01", {}, {(1,): 1}, {(1, 2)}, {1, 2}]

STRANGE = [
    None, True, False, 0, 1, "", "1 2 3", [], [1, 2, 3], (), (1, 2), (1, 2, 3, 4), (1, 2, 2), (0, 1, 2),
    (True, 2, 3), (1, 2, "3"), ((1, 2, 3),), ([1], 2, 3), {1: 2}, [[1, 2, 3]],
]


def fault_by_trying(saying, n, told):
    """What is wrong first, by looking at each place for each word."""
    meant = [repr(order) for order in members_by_trying(saying, n)]
    for i, order in enumerate(told):
        if repr(order) not in meant:
            return ("none", i)
        if order in told[:i]:
            return ("twice", i)
        if i > 0 and order not in jumps_by_trying(told[i - 1]).values():
            return ("far", i)
    missing = [order for order in members_by_trying(saying, n) if order not in told]
    return ("missing", missing[0]) if missing else None


def bent_walks(told):
    """Lists like a walk but for one thing: left out, told twice, exchanged, strange, turned, cut off."""
    many = len(told)
    bent = [told[::-1], told[:many // 2], told[1:], told + told, told + told[:1], told[1:] + told[:1], []]
    bent += [told[:k] + told[k + 1:] for k in range(0, many, 3)]
    bent += [told[:k] + [told[k]] + told[k:] for k in range(0, many, 5)]
    bent += [told[:k] + [told[k + 1], told[k]] + told[k + 2:] for k in range(0, many - 1, 4)]
    bent += [told[:k] + [told[0]] + told[k + 1:] for k in range(1, many, 7)]
    bent += [told[:k] + [strange] + told[k + 1:] for k in (0, many // 2, many - 1) for strange in STRANGE]
    return bent


class TestFirstFault(Case):
    def assert_judged(self, saying, n, told):
        fault = fault_by_trying(saying, n, told)
        for handed in (list(told), tuple(told)):
            self.assert_told(first_fault, {"saying": saying, "n": n, "told": handed}, fault)
            self.assert_told(is_walk, {"saying": saying, "n": n, "told": handed}, fault is None)

    def test_walks_of_tame_families(self):
        for saying in tame_sayings():
            for n in range(1, 6):
                told = list(walk_by_trying(saying, n))
                for handed in (told, tuple(told)):
                    self.assert_told(first_fault, {"saying": saying, "n": n, "told": handed}, None)
                    self.assert_told(is_walk, {"saying": saying, "n": n, "told": handed}, True)

    def test_walks_as_the_program_tells_them(self):
        for saying in [ALL, TREES, PARTINGS, deep_saying(("both", "either"), True), doubled_saying(TREES, 12)]:
            for n in range(1, 7):
                self.assertIs(is_walk(saying, n, walk(saying, n)), True)
                self.assertIs(is_walk(saying, n, walk(saying, n)[::-1]), True)
                self.assertIs(first_fault(saying, n, by_rule(saying, n)), None)

    def test_families_that_are_not_tame(self):
        found = []
        for saying in some_sayings() + wild_sayings():
            for n in range(2, 5):
                if failing_by_trying(saying, n) is None:
                    continue
                if members_by_trying(saying, n) and members_by_trying(saying, n)[0] == tuple(range(1, n + 1)):
                    self.assert_judged(saying, n, rule_by_trying(saying, n))
                    found.append(is_walk(saying, n, rule_by_trying(saying, n)))
                self.assert_judged(saying, n, list(members_by_trying(saying, n)))
                self.assert_judged(saying, n, list(all_orders(n)))
        self.assertEqual(set(found), {True, False})

    def test_bent_ones(self):
        for saying, n in [(ALL, 3), (ALL, 4), (TREES, 3), (TREES, 4), (PARTINGS, 4), (NONE_OF_TWO, 1), (ALL, 2)]:
            for told in bent_walks(list(walk_by_trying(saying, n))):
                self.assert_judged(saying, n, told)

    def test_another_family_s_walk(self):
        for saying in (ALL, TREES, PARTINGS, RISING):
            for other in (ALL, TREES, PARTINGS):
                for n in (2, 3, 4):
                    self.assert_judged(saying, n, list(walk_by_trying(other, n)))

    def test_none_at_all(self):
        self.assert_judged(ALL, 1, [])
        self.assert_told(first_fault, {"saying": ALL, "n": 1, "told": []}, ("missing", (1,)))
        self.assert_told(first_fault, {"saying": NONE_OF_TWO, "n": 2, "told": []}, None)
        self.assert_told(is_walk, {"saying": NONE_OF_TWO, "n": 3, "told": ()}, True)
        self.assert_told(first_fault, {"saying": NONE_OF_TWO, "n": 2, "told": [(1, 2)]}, ("none", 0))

    def test_of_one_place_the_first_of_the_words(self):
        twice = [(1, 2, 3), (1, 3, 2), (1, 2, 3), (1, 2, 3)]
        self.assert_told(first_fault, {"saying": ALL, "n": 3, "told": twice}, ("twice", 2))
        self.assert_told(first_fault, {"saying": ALL, "n": 3, "told": [(1, 2, 3)] * 2}, ("twice", 1))
        self.assert_told(first_fault, {"saying": TREES, "n": 3, "told": [(2, 3, 1)] * 2}, ("none", 0))
        self.assert_told(first_fault, {"saying": TREES, "n": 3, "told": [(2, 1, 3), (2, 3, 1)]}, ("none", 1))
        far = [(1, 2, 3), (2, 1, 3), (3, 1, 2), (9, 9)]
        self.assert_told(first_fault, {"saying": ALL, "n": 3, "told": far}, ("far", 2))

    def test_missing_is_the_first_as_tuples_compare(self):
        self.assert_told(
            first_fault, {"saying": ALL, "n": 3, "told": [(3, 2, 1), (2, 3, 1)]}, ("missing", (1, 2, 3)))
        self.assert_told(
            first_fault, {"saying": ALL, "n": 3, "told": [(1, 3, 2), (1, 2, 3), (3, 1, 2)]}, ("missing", (2, 1, 3)))

    def test_walks_of_unlike_many_things(self):
        for n in (2, 4):
            for saying in (ALL, TREES):
                self.assert_told(first_fault, {"saying": saying, "n": n, "told": walk(saying, 3)}, ("none", 0))


class TestIsSmall(Case):
    def test_by_trying(self):
        for n in (1, 2, 3, 4):
            for one in all_orders(n):
                for other in all_orders(n):
                    small = other in [
                        there for (_, over), there in jumps_by_trying(one).items() if abs(over) == 1
                    ]
                    self.assertIs(is_small([one, other]), small, (one, other))
                    self.assertIs(is_small((one, other, one)), small, (one, other))

    def test_walks(self):
        for n in range(1, 7):
            self.assert_told(is_small, {"told": walk(ALL, n)}, True)
            self.assert_told(is_small, {"told": tuple(walk(ALL, n))}, True)
        self.assert_told(is_small, {"told": walk(TREES, 3)}, False)
        self.assert_told(is_small, {"told": walk(TREES, 3)[:4]}, True)
        self.assert_told(is_small, {"told": walk(PARTINGS, 3)}, False)
        self.assert_told(is_small, {"told": walk(PARTINGS, 3)[1:]}, True)

    def test_at_the_first_and_the_last_step(self):
        self.assert_told(is_small, {"told": [(1, 2, 3), (3, 1, 2), (3, 2, 1)]}, False)
        self.assert_told(is_small, {"told": [(1, 3, 2), (3, 1, 2), (3, 1, 2)]}, False)
        self.assert_told(is_small, {"told": [(1, 3, 2), (3, 1, 2), (1, 3, 2)]}, True)

    def test_none_and_one(self):
        for told in ([], (), [(1,)], ((3, 1, 2),)):
            self.assert_told(is_small, {"told": told}, True)

    def test_twelve_things(self):
        order = (12, 11, 3, 1, 2, 10, 9, 4, 6, 8, 7, 5)
        other = (12, 11, 3, 1, 10, 2, 9, 4, 6, 8, 7, 5)
        self.assert_told(is_small, {"told": [order, other, order]}, True)
        self.assert_told(is_small, {"told": [order, order[::-1]]}, False)


class TestErrors(Case):
    def test_no_walks(self):
        for told in NO_WALKS:
            for function in (is_walk, first_fault):
                for saying in (TREES, NONE_OF_TWO):
                    self.assert_error(function, {"saying": saying, "n": 3, "told": told}, InvalidWalk, told)
            self.assert_error(is_small, {"told": told}, InvalidWalk, told)

    def test_no_orders_within(self):
        for strange in NO_ORDERS + [(1,), (2, 1), (1, 2, 3, 4)]:
            for told in ([strange, (1, 2, 3)], ((1, 2, 3), (1, 3, 2), strange), [(1, 2, 3), strange, (2, 1, 3)]):
                self.assert_error(is_small, {"told": told}, InvalidWalk, told)
        for told in ([None], ((),), (1, 2), [1], [(1, 2, 3), [1, 3, 2]], [(3, 2, 1), (1, 2, 3), (2, 1)]):
            self.assert_error(is_small, {"told": told}, InvalidWalk, told)

    def test_each_wrong_argument(self):
        for function in (is_walk, first_fault):
            for told in NO_SAYINGS:
                self.assert_error(function, {"saying": told, "n": 2, "told": []}, InvalidSaying, told)
            for n in NO_COUNTS:
                self.assert_error(function, {"saying": RISING, "n": n, "told": []}, InvalidNumber, n)

    def test_which_is_due(self):
        faults = [("saying", told, InvalidSaying, told) for told in (None, ["list", ()], ("list", [(2, 1)]))]
        faults += [("n", told, InvalidNumber, told) for told in (0, True, "2")]
        faults += [("told", told, InvalidWalk, told) for told in (None, "walk", {(1, 2): 1})]
        for function in (is_walk, first_fault):
            self.assert_due(function, {"saying": TREES, "n": 2, "told": [(1, 2), (2, 1)]}, faults)

    def test_refused_calls_change_no_later_answer(self):
        refused = [
            (first_fault, (None, 3, [])), (is_walk, (TREES, 0, [])), (first_fault, (TREES, 3, None)),
            (is_small, ([(1, 2), (1,)],)),
        ]
        told = walk(TREES, 3)
        self.assert_unchanged_by_refused(is_walk, (TREES, 3, told), refused)
        self.assert_unchanged_by_refused(first_fault, (TREES, 3, told[:3]), refused)
        self.assert_unchanged_by_refused(is_small, (told[:3],), refused)


class TestWhatWasHandedIn(Case):
    def test_a_list_that_is_changed_later_is_judged_anew(self):
        told = walk(TREES, 4)
        self.assertIs(is_walk(TREES, 4, told), True)
        last = told.pop()
        self.assertIs(is_walk(TREES, 4, told), False)
        self.assertEqual(first_fault(TREES, 4, told), ("missing", last))
        told.append(last)
        self.assertIs(is_walk(TREES, 4, told), True)
        told.append(last)
        self.assertEqual(first_fault(TREES, 4, told), ("twice", len(told) - 1))
        self.assertIs(is_walk(TREES, 4, walk(TREES, 4)), True)


class TestExample(Case):
    def test_of_the_section(self):
        self.assertEqual(
            [is_walk(TREES, 3, walk(TREES, 3)), first_fault(TREES, 3, [(1, 2, 3), (2, 1, 3)]),
             is_small([(1, 2, 3), (1, 3, 2), (3, 1, 2)])],
            [True, ("missing", (1, 3, 2)), True],
        )


if __name__ == "__main__":
    unittest.main()
