"""Plain ways to what the package tells of webs, by trying, to compare with."""

from functools import lru_cache
from itertools import combinations, permutations, product


def all_pairs(n):
    return list(combinations(range(1, n + 1), 2))


def all_webs(n):
    """All webs of n things."""
    pairs = all_pairs(n)
    return [
        (n, tuple(pair for pair, taken in zip(pairs, choice) if taken))
        for choice in product((0, 1), repeat=len(pairs))
    ]


def some_webs_of_six():
    """So many of the webs of six things that they are of all sorts."""
    return all_webs(6)[::331] + [(6, ()), (6, tuple(all_pairs(6)))]


def is_tied(ties, one, other):
    return (min(one, other), max(one, other)) in ties


def is_corner_by_trying(ties, left, thing):
    near = [other for other in left if other != thing and is_tied(ties, thing, other)]
    return all(is_tied(ties, one, other) for one, other in combinations(near, 2))


@lru_cache(maxsize=None)
def corners_by_trying(web):
    """The things as they are taken out, or the first round if no sequence of taking out goes to the end."""
    n, ties = web
    things = range(1, n + 1)
    if not any(
        all(is_corner_by_trying(ties, order[k:], thing) for k, thing in enumerate(order))
        for order in permutations(things)
    ):
        return ("round", web_round_by_trying(web))
    taken = []
    while len(taken) < n:
        left = [thing for thing in things if thing not in taken]
        taken.append(max(thing for thing in left if is_corner_by_trying(ties, left, thing)))
    return ("order", tuple(taken))


def web_round_by_trying(web):
    """The first tuple of four or more things in which just those are tied that follow one another."""
    n, ties = web
    for many in range(4, n + 1):
        follows = {frozenset((k, (k + 1) % many)) for k in range(many)}
        for told in permutations(range(1, n + 1), many):
            if told[0] == min(told) and all(
                is_tied(ties, told[k], told[m]) == (frozenset((k, m)) in follows)
                for k, m in combinations(range(many), 2)
            ):
                return told
    return None


def round_by_trying(n, direction):
    """The first tuple of three or more things each of which leads to the next, the last to the first."""
    leads = set(direction)
    for many in range(3, n + 1):
        for told in permutations(range(1, n + 1), many):
            if told[0] == min(told) and all((one, other) in leads for one, other in zip(told, told[1:] + told[:1])):
                return told
    return None


def all_directions(web):
    return list(product(*[(tie, tie[::-1]) for tie in web[1]]))


def has_no_round(n, direction):
    """Whether the things can be taken out one after another so that none leads to the one taken."""
    left = list(range(1, n + 1))
    while left:
        free = [thing for thing in left if not any(there == thing and one in left for one, there in direction)]
        if not free:
            return False
        left.remove(free[0])
    return True


def free_directions(web):
    return [direction for direction in all_directions(web) if has_no_round(web[0], direction)]


def directions_by_trying(web):
    """The walk of directions, by sorting those that are alike without the thing that is taken out first."""
    kind, taken = corners_by_trying(web)
    assert kind == "order"
    return list(_walk_without(web[0], web[1], taken))


@lru_cache(maxsize=None)
def _walk_without(n, ties, taken):
    if not taken:
        return ((),)
    thing = taken[0]
    below = tuple(tie for tie in ties if thing not in tie)
    told = []
    for at, ahead in enumerate(_walk_without(n, below, taken[1:])):
        alike = [
            direction for direction in free_directions((n, ties))
            if tuple(pair for pair in direction if thing not in pair) == ahead
        ]
        told += sorted(alike, key=lambda direction: len([1 for pair in direction if pair[1] == thing]),
                       reverse=at % 2 == 0)
    return tuple(told)
