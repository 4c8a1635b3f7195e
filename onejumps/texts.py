"""Texts of orders, jumps, bars, sayings and things. What is handed in is known to be right."""


def show_order(order):
    """Return the text of an order: its things, separated by a space."""
    return _with_spaces(order)


def show_jump(jump):
    """Return the text of a jump: the thing and over, separated by a space."""
    return _with_spaces(jump)


def show_bar(bar):
    """Return the text of a bar: the pattern's things, separated by a space, those that are to be neighbours by *."""
    pattern, near = bar
    if near is None:
        return _with_spaces(pattern)
    return _with_spaces(pattern[:near + 1]) + "*" + _with_spaces(pattern[near + 1:])


def show_saying(saying):
    """Return the text of a saying: its parts in round brackets, bars within square ones, `-` for none."""
    if saying[0] == "list":
        bars = _or_none(", ".join([show_bar(bar) for bar in saying[1]]))
        return f"(list [{bars}])"
    return f"({saying[0]} {show_saying(saying[1])} {show_saying(saying[2])})"


def show_thing(kind, thing):
    """Return the text of a thing of a kind."""
    if kind == "signs":
        return _or_none("".join([str(sign) for sign in thing]))
    if kind == "partings":
        return " / ".join([_with_spaces(lot) for lot in thing])
    if kind == "trees":
        return _show_tree(thing)
    return _or_none(" ".join([f"{a}-{b}" for a, b in thing]))


def _with_spaces(numbers):
    """Return the text of numbers, separated by a space."""
    return " ".join([str(number) for number in numbers])


def _or_none(text):
    """Return a text, or what stands for one that shows nothing."""
    return text if text else "-"


def _show_tree(tree):
    """Return the text of a tree."""
    if not tree:
        return "."
    return f"({_show_tree(tree[0])}{_show_tree(tree[1])})"
