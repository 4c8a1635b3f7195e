"""Bars, sayings, and which orders a saying means."""

from onejumps.errors import InvalidBar, InvalidSaying
from onejumps.orders import check_order, is_order, is_whole


def is_bar(told):
    """Return True if a value is a bar, otherwise False."""
    if not isinstance(told, tuple) or len(told) != 2:
        return False
    pattern, near = told
    if not is_order(pattern) or len(pattern) == 1:
        return False
    return near is None or (is_whole(near) and 0 <= near < len(pattern) - 1)


def is_saying(told):
    """Return True if a value is a saying, otherwise False."""
    if not isinstance(told, tuple):
        return False
    if len(told) == 2 and told[0] == "list":
        return isinstance(told[1], tuple) and all(is_bar(bar) for bar in told[1])
    if len(told) == 3 and told[0] in ("both", "either"):
        return is_saying(told[1]) and is_saying(told[2])
    return False


def check_saying(saying):
    """Raise InvalidSaying for what is no saying."""
    if not is_saying(saying):
        raise InvalidSaying(saying)


def shows(order, bar):
    """Return True if an order shows a bar, otherwise False."""
    check_order(order)
    if not is_bar(bar):
        raise InvalidBar(bar)
    return _shows_from(order, bar, ())


def means(saying, order):
    """Return True if a saying means an order, otherwise False."""
    check_saying(saying)
    check_order(order)
    return is_meant(saying, order)


def is_meant(saying, order):
    """Return what `means` does, of a saying and an order that are known to be such."""
    if saying[0] == "list":
        return not any(_shows_from(order, bar, ()) for bar in saying[1])
    if saying[0] == "both":
        return is_meant(saying[1], order) and is_meant(saying[2], order)
    return is_meant(saying[1], order) or is_meant(saying[2], order)


def _shows_from(order, bar, places):
    """Return True if the order shows the bar with the first things of its pattern at these places."""
    pattern, near = bar
    at = len(places)
    if at == len(pattern):
        return True
    first = places[-1] + 1 if places else 0
    # The things of the pattern behind this one need places, too.
    end = len(order) - (len(pattern) - at) + 1
    if near is not None and at == near + 1:
        end = min(end, first + 1)
    for place in range(first, end):
        if _compares(order, pattern, places, place) and _shows_from(order, bar, places + (place,)):
            return True
    return False


def _compares(order, pattern, places, place):
    """Return True if the thing at a place compares with those at the places as the pattern's do."""
    thing = pattern[len(places)]
    return all(
        (order[place] > order[there]) == (thing > before)
        for there, before in zip(places, pattern)
    )
