"""Judges of what others tell: whether it is a walk, where it is not, and whether its steps are small."""

from onejumps.errors import InvalidWalk
from onejumps.families import check_saying, levels
from onejumps.jumps import between
from onejumps.orders import check_many, is_order


def is_walk(saying, n, told):
    """Return True if a list or tuple has all orders of n things that are meant, each once, neighbours by one jump."""
    return first_fault(saying, n, told) is None


def first_fault(saying, n, told):
    """Return None for a list or tuple that is a walk in the sense of `is_walk`, else what is wrong first.

    That is (word, i) with the word "none", "twice" or "far" and the first place of such a fault, or
    ("missing", order) with the first order that is meant and not there.
    """
    check_saying(saying)
    check_many(n)
    if not isinstance(told, (list, tuple)):
        raise InvalidWalk(told)
    meant = levels(saying, n)[-1]
    come = {}
    for i, order in enumerate(told):
        word = _word_at(meant, come, order)
        # Within a walk what is not the first one has one ahead that is meant, else that were the first fault.
        if word is None and i > 0 and between(told[i - 1], order) is None:
            word = "far"
        if word is not None:
            return (word, i)
        come[order] = True
    for order in meant:
        if order not in come:
            return ("missing", order)
    return None


def is_small(told):
    """Return True if in a list or tuple of orders of as many things each follows by a jump over one neighbour."""
    if not _are_orders_alike(told):
        raise InvalidWalk(told)
    return all([_is_small_step(one, other) for one, other in zip(told, told[1:])])


def _word_at(meant, come, order):
    """Return "none" or "twice" for what can't be the next order behind those come to, or None."""
    # Asked first, since what is no order can perhaps not be looked up.
    if not is_order(order) or order not in meant:
        return "none"
    if order in come:
        return "twice"
    return None


def _are_orders_alike(told):
    """Return True if a value is a list or tuple of orders of as many things, otherwise False."""
    if not isinstance(told, (list, tuple)):
        return False
    return all(is_order(order) and len(order) == len(told[0]) for order in told)


def _is_small_step(one, other):
    """Return True if a jump over one neighbour leads from one order to another of as many things."""
    jump = between(one, other)
    return jump is not None and abs(jump[1]) == 1
