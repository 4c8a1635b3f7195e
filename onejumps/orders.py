"""Orders of things: what is one, the next thing put to it and taken down, all orders of n."""

from itertools import permutations

from onejumps.errors import InvalidNumber, InvalidOrder, InvalidPlace


def is_whole(told):
    """Return True if a value is an integer, otherwise False."""
    # To Python True and False are integers, to the document they are none.
    return isinstance(told, int) and not isinstance(told, bool)


def is_order(told):
    """Return True if a value is an order, otherwise False."""
    if not isinstance(told, tuple) or len(told) == 0:
        return False
    # Asked first, since things of unlike kinds can't be sorted.
    if not all(is_whole(thing) for thing in told):
        return False
    return sorted(told) == list(range(1, len(told) + 1))


def check_order(order):
    """Raise InvalidOrder for what is no order."""
    if not is_order(order):
        raise InvalidOrder(order)


def check_many(n):
    """Raise InvalidNumber for what is no integer from 1 on."""
    if not is_whole(n) or n < 1:
        raise InvalidNumber(n)


def taken_down(order):
    """Return an order of two or more things without its greatest one."""
    check_order(order)
    if len(order) == 1:
        raise InvalidOrder(order)
    return without_greatest(order)


def without_greatest(order):
    """Return what `taken_down` does, of an order that is known to be one of two or more things."""
    place = order.index(len(order))
    return order[:place] + order[place + 1:]


def put(order, place):
    """Return the order with the next thing at a place, from 0 to as many as it has."""
    check_order(order)
    if not is_whole(place) or not 0 <= place <= len(order):
        raise InvalidPlace(place)
    return with_next(order, place)


def with_next(order, place):
    """Return what `put` does, of an order and a place that are known to be right."""
    return order[:place] + (len(order) + 1,) + order[place:]


def place_of_greatest(order):
    """Return the place, from 0 on, of the greatest thing."""
    check_order(order)
    return order.index(len(order))


def risen(n):
    """Return the order (1, 2, .., n)."""
    check_many(n)
    return tuple(range(1, n + 1))


def orders(n):
    """Return the ascending list of all orders of n things."""
    check_many(n)
    # From an ascending range the permutations come ascending.
    return list(permutations(range(1, n + 1)))


def turned(order):
    """Return an order read from right to left."""
    check_order(order)
    return order[::-1]
