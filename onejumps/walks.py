"""Walks through all orders of a tame family, neighbours parted by one jump, and the rule that finds them."""

from onejumps.errors import NotMeant, NotTame
from onejumps.families import check_saying, count, levels
from onejumps.jumps import behind, between, can_jump
from onejumps.orders import check_many, risen, with_next
from onejumps.tame import first_failing


def walk(saying, n):
    """Return the list of the orders of the walk of n things of a tame family."""
    check_saying(saying)
    check_many(n)
    return tame_walk(saying, n)


def steps(saying, n):
    """Return the list of the jumps of the walk of n things of a tame family."""
    return steps_along(walk(saying, n))


def by_rule(saying, n):
    """Return the list of the orders of n things to which the rule comes."""
    check_saying(saying)
    check_many(n)
    left = levels(saying, n)[-1]
    order = risen(n)
    if order not in left:
        raise NotMeant(order)
    told = []
    while order is not None:
        told.append(order)
        del left[order]
        order = _next_by_rule(order, left)
    return told


def rule_goes_through(saying, n):
    """Return True if the rule comes to all orders of n things that the saying means, otherwise False."""
    return len(by_rule(saying, n)) == count(saying, n)


def closes(saying, n):
    """Return True if one jump leads from the last order of the walk of a tame family to the first one."""
    told = walk(saying, n)
    return between(told[-1], told[0]) is not None


def tame_walk(saying, n):
    """Return what `walk` does, of a saying and a number that are known to be right; raise NotTame as it does."""
    found = levels(saying, n)
    failing = first_failing(found)
    if failing is not None:
        raise NotTame(failing)
    told = [(1,)]
    for meant in found[1:]:
        told = _longer_walk(told, meant)
    return told


def steps_along(told):
    """Return the list of the jumps from each order of a walk to the next one."""
    return [between(one, other) for one, other in zip(told, told[1:])]


def _longer_walk(told, meant):
    """Return the walk of one thing more than in the walk told, meant being the orders of so many things."""
    longer = []
    for at, order in enumerate(told):
        grown = [with_next(order, place) for place in range(len(order) + 1)]
        led = [new for new in grown if new in meant]
        longer.extend(led if at % 2 else led[::-1])
    return longer


def _next_by_rule(order, left):
    """Return the order to which the rule goes on from an order, of those left, or None."""
    for thing in range(len(order), 1, -1):
        for size in range(1, len(order)):
            for over in (-size, size):
                if can_jump(order, thing, over) and behind(order, thing, over) in left:
                    return behind(order, thing, over)
    return None
