"""Hands: the walk parted into stretches, one for each hand, that are about as long as one another."""

from onejumps.errors import InvalidNumber
from onejumps.families import check_saying
from onejumps.orders import check_many, is_whole
from onejumps.places import walk_with
from onejumps.walks import tame_walk


def stretches(saying, n, hands):
    """Return the tuple of (first, many) of the stretches of the walk of n things, one for each hand."""
    check_saying(saying)
    check_many(n)
    check_many(hands)
    return _parted(len(tame_walk(saying, n)), hands)


def hand_walk(saying, n, hands, hand):
    """Return the list of the orders of a hand, from 0 on, in the walk of n things."""
    check_saying(saying)
    check_many(n)
    check_many(hands)
    if not is_whole(hand) or not 0 <= hand < hands:
        raise InvalidNumber(hand)
    told = tame_walk(saying, n)
    first, many = _parted(len(told), hands)[hand]
    return told[first:first + many]


def whose(saying, hands, order):
    """Return which hand, from 0 on, has an order in the walk of as many things."""
    check_saying(saying)
    check_many(hands)
    told = walk_with(saying, order)
    place = told.index(order)
    ends = [first + many for first, many in _parted(len(told), hands)]
    return len([end for end in ends if end <= place])


def _parted(total, hands):
    """Return the tuple of (first, many) of the stretches of so many orders."""
    least, more = divmod(total, hands)
    # Ahead of a hand each one has the least number, and each of the first ones, who have more, one above it.
    return tuple([
        (hand * least + min(hand, more), least + 1 if hand < more else least)
        for hand in range(hands)
    ])
