"""Readers of what texts.py shows: they return just what has the text, and refuse every other one.

All that is wrong in the first line is Unreadable(1); if that line can stand, whatever follows is Unreadable(2).
"""

from onejumps.errors import Unreadable
from onejumps.families import is_bar
from onejumps.jumps import is_jump
from onejumps.kinds import check_kind, is_thing
from onejumps.orders import is_order

DIGITS = "0123456789"
MOST_DIGITS = 9


def read_order(text):
    """Return the order that has a text."""
    order = tuple(_numbers_in(_first_line(text)))
    if not is_order(order):
        raise Unreadable(1)
    _check_no_more(text)
    return order


def read_jump(text):
    """Return the jump that has a text."""
    jump = tuple(_numbers_in(_first_line(text)))
    if not is_jump(jump):
        raise Unreadable(1)
    _check_no_more(text)
    return jump


def read_bar(text):
    """Return the bar that has a text."""
    bar = _bar_in(_first_line(text))
    _check_no_more(text)
    return bar


def read_saying(text):
    """Return the saying that has a text."""
    saying = _saying_in(_first_line(text))
    _check_no_more(text)
    return saying


def read_thing(kind, text):
    """Return the thing of a kind that has a text."""
    check_kind(kind)
    thing, n = _thing_in(kind, _first_line(text))
    # No kind has a thing of none, though a tree may have one within it.
    if n == 0 or not is_thing(kind, n, thing):
        raise Unreadable(1)
    _check_no_more(text)
    return thing


def read_number(text):
    """Return the integer that has a text: of at most nine digits, without needless signs or noughts."""
    digits = text.removeprefix("-")
    if not 1 <= len(digits) <= MOST_DIGITS or not all(sign in DIGITS for sign in digits):
        raise Unreadable(1)
    number = int(text)
    if str(number) != text:
        raise Unreadable(1)
    return number


def _first_line(text):
    """Return the first line of a text."""
    return text.partition("\n")[0]


def _check_no_more(text):
    """Raise Unreadable(2) for a text of more lines than one, of which the first one can stand."""
    if "\n" in text:
        raise Unreadable(2)


def _numbers_in(line):
    """Return the list of the integers in a line, separated by a space."""
    return [read_number(word) for word in line.split(" ")]


def _bar_in(line):
    """Return the bar that has a line."""
    ahead, star, behind = line.partition("*")
    things = _numbers_in(ahead)
    near = None
    if star:
        near = len(things) - 1
        things.extend(_numbers_in(behind))
    bar = (tuple(things), near)
    if not is_bar(bar):
        raise Unreadable(1)
    return bar


def _saying_in(line):
    """Return the saying that has a line."""
    # Of each saying that is not read to its end, from the outermost on, the word, and its first part if that is read.
    waiting = []
    place = 0
    while True:
        word = _word_at(line, place)
        if word is not None:
            waiting.append([word])
            place += len(f"({word} ")
            continue
        saying, place = _list_at(line, place)
        while waiting and len(waiting[-1]) == 2:
            word, first = waiting.pop()
            saying = (word, first, saying)
            place = _behind(line, place, ")")
        if not waiting:
            break
        waiting[-1].append(saying)
        place = _behind(line, place, " ")
    if place < len(line):
        raise Unreadable(1)
    return saying


def _word_at(line, place):
    """Return the word of a saying of two others that begins at a place of a line, or None."""
    for word in ("both", "either"):
        if line.startswith(f"({word} ", place):
            return word
    return None


def _list_at(line, place):
    """Return the list of bars that begins at a place of a line, and the place behind it."""
    start = _behind(line, place, "(list [")
    end = line.find("])", start)
    if end < 0:
        raise Unreadable(1)
    bars = line[start:end]
    if bars == "-":
        return ("list", ()), end + 2
    return ("list", tuple([_bar_in(bar) for bar in bars.split(", ")])), end + 2


def _behind(line, place, part):
    """Return the place behind a part that has to stand at a place of a line."""
    if not line.startswith(part, place):
        raise Unreadable(1)
    return place + len(part)


def _thing_in(kind, line):
    """Return what of a kind a line shows, be it a thing or not, and of how many it would be one."""
    if kind == "signs":
        signs = _signs_in(line)
        return signs, len(signs) + 1
    if kind == "partings":
        lots = tuple([tuple(_numbers_in(lot)) for lot in line.split(" / ")])
        return lots, sum([len(lot) for lot in lots])
    if kind == "trees":
        return _tree_in(line), line.count("(")
    cuts = _cuts_in(line)
    return cuts, len(cuts) + 1


def _signs_in(line):
    """Return the signs that a line shows."""
    if line == "-":
        return ()
    if not line or not all(sign in "01" for sign in line):
        raise Unreadable(1)
    return tuple([int(sign) for sign in line])


def _cuts_in(line):
    """Return the pairs of corners that a line shows."""
    if line == "-":
        return ()
    cuts = []
    for word in line.split(" "):
        a, _, b = word.partition("-")
        cuts.append((read_number(a), read_number(b)))
    return tuple(cuts)


def _tree_in(line):
    """Return the tree that a line shows."""
    # The trees read so far, in each bracket that is open, from the outermost on, and ahead of them outside of all.
    opened = [[]]
    for sign in line:
        if sign == "(":
            opened.append([])
        elif sign == ".":
            opened[-1].append(())
        elif sign == ")" and len(opened) > 1 and len(opened[-1]) == 2:
            left, right = opened.pop()
            opened[-1].append((left, right))
        else:
            raise Unreadable(1)
    if len(opened) > 1 or len(opened[0]) != 1:
        raise Unreadable(1)
    return opened[0][0]
