"""Whether the greatest thing can be taken from all orders of a family, and a greater one be put to their ends."""

from onejumps.errors import InvalidBar
from onejumps.families import check_saying, is_bar, is_steady_bar, levels, shows
from onejumps.orders import check_many, with_next, without_greatest


def is_tame(saying, n):
    """Return True if a family is tame as far as its orders of at most n things go, otherwise False."""
    return failing(saying, n) is None


def failing(saying, n):
    """Return None for a family that is tame to n things, else (word, order) with the first order at which it is not.

    The word is "down", "front" or "end", the first of these.
    """
    check_saying(saying)
    check_many(n)
    return first_failing(levels(saying, n))


def first_failing(found):
    """Return what `failing` does, of a family that is told as `levels` tells it."""
    for meant in found:
        for order in meant:
            word = _word_at(found, order)
            if word is not None:
                return (word, order)
    return None


def _word_at(found, order):
    """Return the word for what is missing at an order of a family that is told as `levels` tells it, or None."""
    many = len(order)
    if many > 1 and without_greatest(order) not in found[many - 2]:
        return "down"
    # To the orders of the most things nothing can be put within what was asked.
    if many == len(found):
        return None
    if with_next(order, 0) not in found[many]:
        return "front"
    if with_next(order, many) not in found[many]:
        return "end"
    return None


def least_bars(bars):
    """Return the ascending tuple, by length and then as tuples, of the patterns that show no unlike one of the bars."""
    _check_plain_bars(bars)
    patterns = [pattern for pattern, _ in bars]
    least = [pattern for pattern in patterns if not _shows_another(pattern, patterns)]
    return tuple(sorted(sorted(set(least)), key=len))


def tame_for_ever(bars):
    """Return True if the list of bars, in which nothing is near, is tame for all n, otherwise False."""
    return all(is_steady_bar((pattern, None)) for pattern in least_bars(bars))


def _check_plain_bars(bars):
    """Raise InvalidBar for what is no tuple of bars in which nothing is near."""
    if not isinstance(bars, tuple) or not all(is_bar(bar) and bar[1] is None for bar in bars):
        raise InvalidBar(bars)


def _shows_another(pattern, patterns):
    """Return True if a pattern, read as an order, shows one of the patterns that is not like it."""
    return any(other != pattern and shows(pattern, (other, None)) for other in patterns)
