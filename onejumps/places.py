"""The places of orders in a walk, from 0 on, and what stands ahead of and behind an order."""

from onejumps.errors import InvalidNumber, NotMeant
from onejumps.families import check_saying
from onejumps.jumps import between
from onejumps.orders import check_order, is_whole
from onejumps.walks import tame_walk, walk


def nth(saying, n, i):
    """Return the i-th order of the walk of n things, i from 0 on."""
    told = walk(saying, n)
    _check_place(i, told)
    return told[i]


def place_of(saying, order):
    """Return the place of an order in the walk of as many things."""
    told = walk_with(saying, order)
    return told.index(order)


def next_of(saying, order):
    """Return the order behind an order in the walk of as many things, or None at its end."""
    told = walk_with(saying, order)
    place = told.index(order) + 1
    return told[place] if place < len(told) else None


def last_of(saying, order):
    """Return the order ahead of an order in the walk of as many things, or None at its beginning."""
    told = walk_with(saying, order)
    place = told.index(order) - 1
    return told[place] if place >= 0 else None


def next_jump(saying, order):
    """Return the jump from an order to the one behind it in the walk of as many things, or None at its end."""
    there = next_of(saying, order)
    return None if there is None else between(order, there)


def stretch(saying, n, first, many):
    """Return the list of so many orders of the walk of n things from the first-th one on, fewer at its end."""
    told = walk(saying, n)
    _check_place(first, told)
    if not is_whole(many) or many < 0:
        raise InvalidNumber(many)
    return told[first:first + many]


def walk_with(saying, order):
    """Return the walk of as many things as an order has, which has this order."""
    check_saying(saying)
    check_order(order)
    told = tame_walk(saying, len(order))
    if order not in told:
        raise NotMeant(order)
    return told


def _check_place(i, told):
    """Raise InvalidNumber for what is no place in a walk."""
    if not is_whole(i) or not 0 <= i < len(told):
        raise InvalidNumber(i)
