"""Bars, sayings, and which orders a saying means."""

from itertools import combinations

from onejumps.errors import InvalidBar, InvalidSaying, NotMeant
from onejumps.orders import check_many, check_order, is_order, is_whole, with_next


def is_bar(told):
    """Return True if a value is a bar, otherwise False."""
    if not isinstance(told, tuple) or len(told) != 2:
        return False
    pattern, near = told
    if not is_order(pattern) or len(pattern) == 1:
        return False
    return near is None or (is_whole(near) and 0 <= near < len(pattern) - 1)


def is_saying(told):
    """Return True if a value is a saying, otherwise False."""
    if not isinstance(told, tuple):
        return False
    if len(told) == 2 and told[0] == "list":
        return isinstance(told[1], tuple) and all(is_bar(bar) for bar in told[1])
    if len(told) == 3 and told[0] in ("both", "either"):
        return is_saying(told[1]) and is_saying(told[2])
    return False


def check_saying(saying):
    """Raise InvalidSaying for what is no saying."""
    if not is_saying(saying):
        raise InvalidSaying(saying)


def shows(order, bar):
    """Return True if an order shows a bar, otherwise False."""
    check_order(order)
    if not is_bar(bar):
        raise InvalidBar(bar)
    return not is_meant(("list", (bar,)), order)


def means(saying, order):
    """Return True if a saying means an order, otherwise False."""
    check_saying(saying)
    check_order(order)
    return is_meant(saying, order)


def members(saying, n):
    """Return the ascending list of the orders of n things that a saying means."""
    check_saying(saying)
    check_many(n)
    return list(levels(saying, n)[-1])


def is_steady(saying):
    """Return True if all bars in a saying are steady, otherwise False."""
    check_saying(saying)
    return all(is_steady_bar(bar) for bar in _bars_in(_parts_of(saying)))


def children(saying, order):
    """Return the ascending tuple of the places at which the next thing can be put to an order that is meant.

    At these places, and at no others, the saying means the new order.
    """
    check_saying(saying)
    check_order(order)
    if not is_meant(saying, order):
        raise NotMeant(order)
    grown = [with_next(order, place) for place in range(len(order) + 1)]
    meant = meant_among(saying, grown)
    return tuple([place for place, new in enumerate(grown) if new in meant])


def count(saying, n):
    """Return how many orders of n things a saying means."""
    return len(members(saying, n))


def is_steady_bar(bar):
    """Return True if a bar, known to be one, is steady, otherwise False."""
    pattern, near = bar
    place = pattern.index(len(pattern))
    if place in (0, len(pattern) - 1):
        return False
    return near is None or place in (near, near + 1)


def levels(saying, n):
    """Return, for 1 to n things, a dict of True by each order that a saying, known to be one, means, ascending."""
    # No pattern has less than two things, so each saying means (1,).
    found = [{(1,): True}]
    for many in range(2, n + 1):
        # What stands behind an order's first thing shows no bar that the order does not show: where the order
        # is meant, the rest, renumbered, is meant too.
        longer = [_headed(order, first) for first in range(1, many + 1) for order in found[-1]]
        found.append({order: True for order in meant_among(saying, longer)})
    return found


def _headed(order, first):
    """Return the order that begins with this thing and goes on as the order does, its things renumbered."""
    return (first, *[thing if thing < first else thing + 1 for thing in order])


def is_meant(saying, order):
    """Return what `means` does, of a saying and an order that are known to be such."""
    return len(meant_among(saying, [order])) == 1


def meant_among(saying, told):
    """Return the list of those of the orders told that a saying, known to be one, means, in their sequence."""
    parts = _parts_of(saying)
    sought = _sought(_bars_in(parts))
    return [order for order in told if _is_told(parts, _shown(order, sought))]


def _parts_of(saying):
    """Return the list of the parts of a saying, itself the last one.

    A part is ("list", bars), or a word and the numbers of two parts ahead of it.
    """
    numbers = {}
    _number_of(saying, numbers)
    return list(numbers)


def _number_of(saying, numbers):
    """Return the number of a saying among the parts, to which it and what is in it are put if they are not there."""
    # Parts alike have one number: a saying that has another one twice, at each of many depths, has few parts.
    part = saying
    if saying[0] != "list":
        part = (saying[0], _number_of(saying[1], numbers), _number_of(saying[2], numbers))
    return numbers.setdefault(part, len(numbers))


def _bars_in(parts):
    """Return the list of the bars in the parts of a saying."""
    return [bar for part in parts if part[0] == "list" for bar in part[1]]


def _sought(bars):
    """Return a dict that has, by the length of patterns and then by pattern, the list of what is near in its bars."""
    sought = {}
    for pattern, near in bars:
        patterns = sought.setdefault(len(pattern), {})
        patterns.setdefault(pattern, []).append(near)
    return sought


def _shown(order, sought):
    """Return a dict of True by each of the sought bars that an order shows."""
    shown = {}
    for many in range(2, len(order) + 1):
        if many not in sought:
            continue
        for places in combinations(range(len(order)), many):
            pattern = _pattern_at(order, places)
            for near in sought[many].get(pattern, ()):
                if near is None or places[near] + 1 == places[near + 1]:
                    shown[(pattern, near)] = True
    return shown


def _pattern_at(order, places):
    """Return the pattern as whose things those at the places compare."""
    things = [order[place] for place in places]
    ascending = sorted(things)
    return tuple([ascending.index(thing) + 1 for thing in things])


def _is_told(parts, shown):
    """Return True if the saying of these parts means the orders that of its bars show just those shown."""
    told = []
    for part in parts:
        if part[0] == "list":
            told.append(not any(bar in shown for bar in part[1]))
        elif part[0] == "both":
            told.append(told[part[1]] and told[part[2]])
        else:
            told.append(told[part[1]] or told[part[2]])
    return told[-1]
