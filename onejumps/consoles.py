"""A console: sayings kept by name, changes that can be taken back, and texts that order what to do."""

from onejumps.errors import InvalidName, NothingToUndo, UnknownName, Unorderly, Unreadable
from onejumps.families import check_saying, count, is_steady, means
from onejumps.places import last_of, next_jump, next_of, nth, place_of
from onejumps.readers import read_number, read_order, read_saying
from onejumps.tame import failing
from onejumps.texts import show_jump, show_order, show_saying
from onejumps.walks import closes, walk

LETTERS = "abcdefghijklmnopqrstuvwxyz"
MOST_LETTERS = 8

# What stands behind the word of each text: "says" is a name that has to hold a saying, "name" is any other one.
FORMS = {
    "say": ("name", "saying"),
    "both": ("name", "says", "says"),
    "either": ("name", "says", "says"),
    "drop": ("name",),
    "undo": (),
    "names": (),
    "show": ("says",),
    "means": ("says", "order"),
    "steady": ("says",),
    "closes": ("says", "number"),
    "count": ("says", "number"),
    "tame": ("says", "number"),
    "next": ("says", "order"),
    "last": ("says", "order"),
    "jump": ("says", "order"),
    "nth": ("says", "number", "number"),
    "place": ("says", "order"),
    "walk": ("says", "number"),
}


class Console:
    """Sayings by name, none at first."""

    def __init__(self):
        self._held = {}
        # A change is the name and the saying that it held before, None if it held none.
        self._changes = []

    def keep(self, name, saying):
        """Keep a saying under a name, in the place of an elder one."""
        if not _is_name(name):
            raise InvalidName(name)
        check_saying(saying)
        self._put(name, saying)

    def drop(self, name):
        """Keep no saying under a name any more."""
        self._changes.append((name, self.saying(name)))
        del self._held[name]

    def undo(self):
        """Take back the last change that is not taken back."""
        if not self._changes:
            raise NothingToUndo(0)
        name, former = self._changes.pop()
        if former is None:
            del self._held[name]
        else:
            self._held[name] = former

    def saying(self, name):
        """Return the saying that is kept under a name."""
        # What is no name can perhaps not be looked up.
        if not _is_name(name) or name not in self._held:
            raise UnknownName(name)
        return self._held[name]

    def names(self):
        """Return the ascending list of the names that hold a saying."""
        return sorted(self._held)

    def order(self, text):
        """Do what a text says, and return the answer, a text."""
        word, parts = _parts_of(text)
        told = [self.saying(part) if sort == "says" else part for sort, part in zip(FORMS[word], parts)]
        if word == "names":
            return "\n".join(self.names()) if self._held else "none"
        if word in ANSWERS:
            answer = ANSWERS[word]
            return answer(*told)
        self._change(word, told)
        return "done"

    def _change(self, word, told):
        """Make the change of a word, with what is told behind it, sayings in the place of names that hold them."""
        if word == "undo":
            self.undo()
        elif word == "drop":
            self.drop(told[0])
        elif word == "say":
            self._put(told[0], told[1])
        else:
            self._put(told[0], (word, told[1], told[2]))

    def _put(self, name, saying):
        """Keep what is known to be a saying under what is known to be a name."""
        self._changes.append((name, self._held.get(name)))
        self._held[name] = saying


def _is_name(told):
    """Return True if a value is a text of one to eight letters from a to z, otherwise False."""
    if not isinstance(told, str) or not 1 <= len(told) <= MOST_LETTERS:
        return False
    return all(letter in LETTERS for letter in told)


def _parts_of(text):
    """Return the word of a text, and the list of what is behind it; raise Unorderly for a text that can't be done."""
    word = text.partition(" ")[0]
    if word not in FORMS:
        raise Unorderly(text)
    form = FORMS[word]
    # The last part may have spaces of its own; where no part is to be, what is split off first is the whole text.
    words = text.split(" ", len(form))
    if words[0] != word or len(words) != len(form) + 1:
        raise Unorderly(text)
    try:
        return word, [_part_in(sort, part) for sort, part in zip(form, words[1:])]
    except Unreadable:
        raise Unorderly(text) from None


def _part_in(sort, text):
    """Return the part of this sort that has a text, a name being its own text."""
    if sort == "number":
        return read_number(text)
    if sort == "order":
        return read_order(text)
    if sort == "saying":
        return read_saying(text)
    if not _is_name(text):
        raise Unreadable(1)
    return text


def _yes_or_no(told):
    """Return the text of True or False."""
    return "yes" if told else "no"


def _show(saying):
    """Answer the text of a saying."""
    return show_saying(saying)


def _means(saying, order):
    """Answer whether a saying means an order."""
    return _yes_or_no(means(saying, order))


def _steady(saying):
    """Answer whether a saying is steady."""
    return _yes_or_no(is_steady(saying))


def _closes(saying, n):
    """Answer whether a walk closes."""
    return _yes_or_no(closes(saying, n))


def _count(saying, n):
    """Answer how many orders of n things a saying means."""
    return str(count(saying, n))


def _tame(saying, n):
    """Answer whether a family is tame to n things, or where it is not."""
    told = failing(saying, n)
    if told is None:
        return "yes"
    word, order = told
    return f"{word} {show_order(order)}"


def _next(saying, order):
    """Answer the order behind an order in the walk."""
    return _order_or_none(next_of(saying, order))


def _last(saying, order):
    """Answer the order ahead of an order in the walk."""
    return _order_or_none(last_of(saying, order))


def _order_or_none(order):
    """Return the text of an order, or of None."""
    return "none" if order is None else show_order(order)


def _jump(saying, order):
    """Answer the jump from an order to the next one in the walk."""
    jump = next_jump(saying, order)
    return "none" if jump is None else show_jump(jump)


def _nth(saying, n, i):
    """Answer the i-th order of the walk."""
    return show_order(nth(saying, n, i))


def _place(saying, order):
    """Answer the place of an order in the walk."""
    return str(place_of(saying, order))


def _walk(saying, n):
    """Answer the orders of the walk, one a line."""
    return "\n".join([show_order(order) for order in walk(saying, n)])


ANSWERS = {
    "show": _show,
    "means": _means,
    "steady": _steady,
    "closes": _closes,
    "count": _count,
    "tame": _tame,
    "next": _next,
    "last": _last,
    "jump": _jump,
    "nth": _nth,
    "place": _place,
    "walk": _walk,
}
