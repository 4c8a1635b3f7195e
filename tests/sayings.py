"""The sayings that the tests ask for."""

from tests.trying import all_bars, is_steady_by_trying

TREES = ("list", (((2, 3, 1), None),))
PARTINGS = ("list", (((1, 3, 2), 1),))
RISING = ("list", (((2, 1), None),))
ALL = ("list", ())
NONE_OF_TWO = ("list", (((1, 2), None), ((2, 1), None)))


def some_sayings():
    """Sayings up to four deep, bars with and without near ones, empty lists too."""
    small = ("list", (((1, 3, 2), 0), ((3, 1, 2), None)))
    either = ("either", TREES, PARTINGS)
    both = ("both", TREES, ("list", (((3, 1, 2), 1),)))
    mixed = ("either", ("both", either, small), ("list", (((2, 4, 1, 3), None), ((3, 2, 1), 1))))
    return [
        ALL, TREES, PARTINGS, RISING, NONE_OF_TWO, small, either, both,
        ("both", PARTINGS, ALL), ("either", NONE_OF_TWO, RISING), ("both", NONE_OF_TWO, ALL),
        ("either", RISING, ("list", (((1, 2), None),))),
        ("both", ("either", RISING, TREES), ("either", both, small)),
        mixed,
        ("both", mixed, ("either", ("list", (((1, 2, 3), 1),)), ("both", either, ALL))),
        ("list", (((1, 2), 0), ((3, 2, 1), None), ((2, 1, 3), 1), ((3, 1, 4, 2), 1))),
    ]


def steady_sayings():
    """Sayings in which all bars are steady, so that their families are tame."""
    inner = ("list", (((2, 4, 1, 3), 0), ((1, 3, 2), 1)))
    longer = ("list", (((2, 1, 4, 3), None), ((3, 1, 5, 2, 4), 2), ((1, 4, 2, 3), 1)))
    ends = ("list", (((1, 3, 2), None), ((2, 3, 1), None)))
    return [
        ALL, TREES, PARTINGS, inner, longer, ends,
        ("either", TREES, PARTINGS), ("both", TREES, inner), ("either", ("both", PARTINGS, inner), ends),
        ("both", ("either", longer, ("both", ALL, TREES)), ("either", ends, ("either", inner, PARTINGS))),
    ]


def tame_sayings():
    """Steady ones, and others whose families are tame as well, as far as five or six things or for ever."""
    return steady_sayings() + [
        ("list", (((2, 3, 1), None), ((2, 3, 1, 4), None))),
        ("either", ALL, RISING),
        ("both", TREES, ("either", NONE_OF_TWO, ("either", TREES, RISING))),
    ]


def wild_sayings():
    """Sayings whose families are not tame, the first fault at many a place."""
    return [
        ("list", (((1, 2), 0),)),
        ("list", (((2, 1), None),)),
        NONE_OF_TWO,
        ("list", (((1, 2, 3), 0),)),
        ("list", (((3, 2, 1), 1),)),
        ("list", (((1, 2, 3), 0), ((3, 1, 2), 0))),
        ("list", (((1, 3, 2, 4), 2),)),
        ("list", (((4, 1, 3, 2), 0),)),
        ("list", (((2, 3, 1, 4), 2), ((2, 3, 1), 0))),
        ("list", (((4, 2, 3, 1), 0), ((2, 3, 1), 0))),
        ("list", (((3, 1, 4, 2), 0),)),
        ("list", (((3, 1, 4, 2), 0), ((5, 3, 1, 4, 2), None))),
        ("list", (((3, 1, 4, 2), 0), ((3, 1, 4, 2, 5), None))),
        ("list", (((1, 2, 3, 4, 5), None),)),
        ("list", (((5, 2, 3, 1, 4), None),)),
        ("list", (((2, 3, 1), 0), ((2, 4, 1, 3), 2))),
        ("either", ("list", (((3, 1, 4, 2), 0),)), ("list", (((1, 2, 4, 3), 0),))),
        ("both", TREES, ("list", (((1, 2, 3), None),))),
    ]


def deep_saying(words, steady):
    """A saying four deep, by turns of the words, of sixteen lists of four bars of five things, no bar twice."""
    bars = [bar for bar in all_bars(5) if len(bar[0]) == 5 and (not steady or is_steady_by_trying(bar))]
    # So many bars between two that those taken are of all sorts.
    lists = [("list", tuple(bars[(4 * at + k) * (len(bars) // 64)] for k in range(4))) for at in range(16)]
    for depth in range(4):
        lists = [(words[depth % 2], one, other) for one, other in zip(lists[::2], lists[1::2])]
    return lists[0]


def doubled_saying(saying, deep):
    """A saying so deep that has twice, at each depth, the one below."""
    for depth in range(deep):
        saying = (("both", "either")[depth % 2], saying, saying)
    return saying
