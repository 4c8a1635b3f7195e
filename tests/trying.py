"""Plain ways to what the package tells, by trying, to compare with."""

from functools import lru_cache
from itertools import combinations


@lru_cache(maxsize=None)
def all_orders(n):
    """All orders of n things, ascending, by putting each next thing everywhere."""
    if n == 1:
        return ((1,),)
    return tuple(sorted(
        order[:place] + (n,) + order[place:]
        for order in all_orders(n - 1) for place in range(n)
    ))


def orders_up_to(n):
    return [order for many in range(1, n + 1) for order in all_orders(many)]


def jumps_by_trying(order):
    """A dict from each jump to the order behind it, by exchanging a thing with neighbour after neighbour."""
    found = {}
    for thing in order:
        for way in (-1, 1):
            things = list(order)
            place = things.index(thing)
            over = 0
            while 0 <= place + way < len(things) and things[place + way] < thing:
                things[place], things[place + way] = things[place + way], things[place]
                place += way
                over += way
                found[(thing, over)] = tuple(things)
    return found


def all_bars(longest):
    """All bars of patterns of at most so many things."""
    return [
        (pattern, near)
        for many in range(2, longest + 1)
        for pattern in all_orders(many)
        for near in [None, *range(many - 1)]
    ]


def shows_by_trying(order, bar):
    pattern, near = bar
    for places in combinations(range(len(order)), len(pattern)):
        things = [order[place] for place in places]
        alike = all(
            (things[i] < things[j]) == (pattern[i] < pattern[j])
            for i in range(len(pattern)) for j in range(len(pattern))
        )
        if alike and (near is None or places[near] + 1 == places[near + 1]):
            return True
    return False


def is_steady_by_trying(bar):
    pattern, near = bar
    if pattern[0] == len(pattern) or pattern[-1] == len(pattern):
        return False
    return near is None or len(pattern) in pattern[near:near + 2]


def means_by_trying(saying, order):
    if saying[0] == "list":
        return not any([shows_by_trying(order, bar) for bar in saying[1]])
    told = [means_by_trying(part, order) for part in saying[1:]]
    return all(told) if saying[0] == "both" else any(told)


@lru_cache(maxsize=None)
def members_by_trying(saying, n):
    return tuple(order for order in all_orders(n) if means_by_trying(saying, order))


def down_by_trying(order):
    return tuple(thing for thing in order if thing != len(order))


def failing_by_trying(saying, n):
    for many in range(1, n + 1):
        for order in members_by_trying(saying, many):
            if many > 1 and down_by_trying(order) not in members_by_trying(saying, many - 1):
                return ("down", order)
            if many < n and (many + 1,) + order not in members_by_trying(saying, many + 1):
                return ("front", order)
            if many < n and order + (many + 1,) not in members_by_trying(saying, many + 1):
                return ("end", order)
    return None


@lru_cache(maxsize=None)
def walk_by_trying(saying, n):
    """The walk, by sorting the orders that taken down are alike."""
    if n == 1:
        return ((1,),)
    told = []
    leftwards = True
    for order in walk_by_trying(saying, n - 1):
        alike = [new for new in members_by_trying(saying, n) if down_by_trying(new) == order]
        told += sorted(alike, key=lambda new: new.index(n), reverse=leftwards)
        leftwards = not leftwards
    return tuple(told)


def rule_by_trying(saying, n):
    """The orders to which the rule comes, by choosing from all jumps at each step."""
    told = [tuple(range(1, n + 1))]
    while True:
        free = [
            (-thing, abs(over), over, there)
            for (thing, over), there in jumps_by_trying(told[-1]).items()
            if there in members_by_trying(saying, n) and there not in told
        ]
        if not free:
            return told
        told.append(min(free)[-1])
