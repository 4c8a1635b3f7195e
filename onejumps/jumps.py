"""Jumps: a thing moves over lesser neighbours and gives another order."""

from onejumps.errors import InvalidJump, InvalidNumber, InvalidPair, NotMeant
from onejumps.families import check_saying, is_meant
from onejumps.orders import check_order, is_whole, risen


def jumped(order, thing, over):
    """Return the order behind a jump."""
    check_order(order)
    if not can_jump(order, thing, over):
        raise InvalidJump((thing, over))
    return behind(order, thing, over)


def jumps(order):
    """Return the ascending list of all jumps (thing, over) of an order."""
    check_order(order)
    many = len(order)
    return [
        (thing, over)
        for thing in risen(many)
        for over in range(1 - many, many)
        if can_jump(order, thing, over)
    ]


def between(one, other):
    """Return the jump that leads from one order to another, or None if there is none."""
    check_order(one)
    check_order(other)
    if len(one) != len(other):
        raise InvalidPair((len(one), len(other)))
    strays = [thing for thing, there in zip(one, other) if thing != there]
    if not strays:
        return None
    # A jump gives new places to its thing and lesser ones alone, so the thing is the greatest that has one.
    thing = max(strays)
    over = other.index(thing) - one.index(thing)
    return (thing, over) if behind(one, thing, over) == other else None


def undone(jump):
    """Return the jump that leads back."""
    if not is_jump(jump):
        raise InvalidJump(jump)
    thing, over = jump
    return (thing, -over)


def least_jump(saying, order, thing, way):
    """Return the order of the family behind the jump of a thing over the fewest others to one side, or None.

    The way is -1 for the left, 1 for the right.
    """
    check_order(order)
    check_saying(saying)
    if not is_meant(saying, order):
        raise NotMeant(order)
    if not is_whole(thing) or thing not in order:
        raise InvalidNumber(thing)
    if not is_whole(way) or way not in (-1, 1):
        raise InvalidNumber(way)
    return _least(saying, order, thing, way)


def is_jump(told):
    """Return True if a value is a pair of a thing from 2 on and an integer that is not 0, otherwise False."""
    if not isinstance(told, tuple) or len(told) != 2:
        return False
    thing, over = told
    # The thing 1 has none less than it, so it never jumps.
    return is_whole(thing) and is_whole(over) and thing > 1 and over != 0


def can_jump(order, thing, over):
    """Return True if (thing, over), whatever they are, is a jump of the order, otherwise False."""
    if not is_jump((thing, over)) or thing not in order:
        return False
    start = order.index(thing)
    goal = start + over
    if not 0 <= goal < len(order):
        return False
    passed = order[goal:start] if over < 0 else order[start + 1:goal + 1]
    return max(passed) < thing


def behind(order, thing, over):
    """Return the order behind a thing's move over so many neighbours, which is known to end within the order."""
    start = order.index(thing)
    goal = start + over
    others = order[:start] + order[start + 1:]
    return others[:goal] + (thing,) + others[goal:]


def _least(saying, order, thing, way):
    """Return what `least_jump` does, of arguments that are known to be right."""
    for size in range(1, len(order)):
        # What stops a jump stops each longer one to this side.
        if not can_jump(order, thing, way * size):
            return None
        there = behind(order, thing, way * size)
        if is_meant(saying, there):
            return there
    return None
