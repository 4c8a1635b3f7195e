"""Prices of jumps: what a walk costs, and what it saves against setting up each order anew."""

from math import gcd

from onejumps.errors import InvalidJump, InvalidPrices
from onejumps.families import check_saying
from onejumps.jumps import is_jump
from onejumps.orders import is_whole
from onejumps.walks import steps_along, tame_walk


def cost(prices, jump):
    """Return what a jump costs, a number (top, bottom)."""
    _check_prices(prices)
    if not is_jump(jump) or jump[0] > len(prices):
        raise InvalidJump(jump)
    return _cost_of(prices, jump)


def walk_cost(saying, prices):
    """Return what all jumps of the walk of as many things as there are prices cost together."""
    return _cost_of_all(prices, _priced_steps(saying, prices))


def anew(saying, prices):
    """Return what it costs to set up each order of the walk but the first one anew."""
    return _cost_anew(prices, _priced_steps(saying, prices))


def saved(saying, prices):
    """Return the share of what it costs anew that a walk saves, below 0 if it costs more, (0, 1) of nothing."""
    led = _priced_steps(saying, prices)
    top, bottom = _cost_anew(prices, led)
    if top == 0:
        return (0, 1)
    spent, part = _cost_of_all(prices, led)
    return _lowest(top * part - spent * bottom, top * part)


def dearest(saying, prices):
    """Return (cost, i) of the dearest step of a walk, that to the i-th order, the first of them, or None."""
    found = None
    for at, jump in enumerate(_priced_steps(saying, prices)):
        spent = _cost_of(prices, jump)
        if found is None or spent[0] * found[0][1] > found[0][0] * spent[1]:
            found = (spent, at + 1)
    return found


def _are_prices(told):
    """Return True if a value is a tuple of one or more numbers from 0 on, otherwise False."""
    return isinstance(told, tuple) and len(told) > 0 and all(_is_price(number) for number in told)


def _is_price(told):
    """Return True if a value is a number from 0 on in lowest terms, otherwise False."""
    if not isinstance(told, tuple) or len(told) != 2:
        return False
    top, bottom = told
    return is_whole(top) and is_whole(bottom) and top >= 0 and bottom > 0 and gcd(top, bottom) == 1


def _check_prices(prices):
    """Raise InvalidPrices for what are no prices."""
    if not _are_prices(prices):
        raise InvalidPrices(prices)


def _priced_steps(saying, prices):
    """Return the list of the jumps of the walk of as many things as there are prices."""
    _check_prices(prices)
    check_saying(saying)
    return steps_along(tame_walk(saying, len(prices)))


def _cost_of(prices, jump):
    """Return what a jump costs whose thing is known to have a price."""
    thing, over = jump
    top, bottom = prices[thing - 1]
    return _lowest(top * abs(over), bottom)


def _cost_of_all(prices, led):
    """Return what these jumps cost together."""
    return _sum_of([_cost_of(prices, jump) for jump in led])


def _cost_anew(prices, led):
    """Return what it costs to set up anew, instead of each of these jumps, the order behind it."""
    top, bottom = _sum_of(prices)
    return _lowest(top * len(led), bottom)


def _sum_of(numbers):
    """Return the sum of numbers."""
    whole, part = 0, 1
    for top, bottom in numbers:
        whole, part = _lowest(whole * bottom + top * part, part * bottom)
    return (whole, part)


def _lowest(top, bottom):
    """Return the number top / bottom, bottom being above 0, in lowest terms."""
    common = gcd(top, bottom)
    return (top // common, bottom // common)
