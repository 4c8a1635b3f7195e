"""A plain model of a console, that keeps what was held before each change, to compare with."""

import re

from tests.trying import (
    failing_by_trying, is_steady_by_trying, jumps_by_trying, means_by_trying, members_by_trying, walk_by_trying,
)
from tests.trying_texts import NUMBER, order_by_pattern, order_text, saying_by_pattern, saying_text

NAME = "[a-z]{1,8}"

FORMS = {
    "say": f"say ({NAME}) (.*)", "both": f"both ({NAME}) ({NAME}) ({NAME})", "either": f"either ({NAME}) ({NAME}) ({NAME})",
    "drop": f"drop ({NAME})", "undo": "undo", "names": "names", "show": f"show ({NAME})",
    "means": f"means ({NAME}) (.*)", "steady": f"steady ({NAME})", "closes": f"closes ({NAME}) ({NUMBER})",
    "count": f"count ({NAME}) ({NUMBER})", "tame": f"tame ({NAME}) ({NUMBER})", "next": f"next ({NAME}) (.*)",
    "last": f"last ({NAME}) (.*)", "jump": f"jump ({NAME}) (.*)", "nth": f"nth ({NAME}) ({NUMBER}) ({NUMBER})",
    "place": f"place ({NAME}) (.*)", "walk": f"walk ({NAME}) ({NUMBER})",
}


class Refused(Exception):
    """The name of the error that is due, and its value."""


class Model:
    def __init__(self):
        self.held = {}
        self.before = []

    def change(self, name, saying):
        self.before.append(dict(self.held))
        self.held = {other: kept for other, kept in self.held.items() if other != name}
        if saying is not None:
            self.held[name] = saying

    def saying(self, name):
        if name not in self.held:
            raise Refused("UnknownName", name)
        return self.held[name]

    def drop(self, name):
        self.saying(name)
        self.change(name, None)

    def undo(self):
        if not self.before:
            raise Refused("NothingToUndo", 0)
        self.held = self.before.pop()

    def order(self, text):
        """The answer to a text; raises Refused."""
        word = text.split(" ")[0]
        found = re.fullmatch(FORMS[word], text) if word in FORMS else None
        if found is None:
            raise Refused("Unorderly", text)
        parts = list(found.groups())
        if word == "say":
            saying = saying_by_pattern(parts[1])
            if saying is None:
                raise Refused("Unorderly", text)
            self.change(parts[0], saying)
            return "done"
        if word in ("means", "next", "last", "jump", "place"):
            parts[1] = order_by_pattern(parts[1])
            if parts[1] is None:
                raise Refused("Unorderly", text)
        if word in ("both", "either"):
            self.change(parts[0], (word, self.saying(parts[1]), self.saying(parts[2])))
            return "done"
        if word in ("drop", "undo"):
            getattr(self, word)(*parts)
            return "done"
        if word == "names":
            return "\n".join(sorted(self.held)) or "none"
        return asked(word, self.saying(parts[0]), *parts[1:])


def asked(word, saying, *told):
    if word == "show":
        return saying_text(saying)
    if word == "steady":
        return "yes" if all(is_steady_by_trying(bar) for bar in bars_in(saying)) else "no"
    if word == "means":
        return "yes" if means_by_trying(saying, told[0]) else "no"
    n = len(told[0]) if isinstance(told[0], tuple) else int(told[0])
    if n < 1:
        raise Refused("InvalidNumber", n)
    if word == "count":
        return f"{len(members_by_trying(saying, n))}"
    failing = failing_by_trying(saying, n)
    if word == "tame":
        return "yes" if failing is None else failing[0] + " " + order_text(failing[1])
    if failing is not None:
        raise Refused("NotTame", failing)
    return asked_of_walk(word, walk_by_trying(saying, n), *told)


def asked_of_walk(word, walk, *told):
    if word == "walk":
        return "\n".join(order_text(order) for order in walk)
    if word == "closes":
        return "yes" if walk[0] in jumps_by_trying(walk[-1]).values() else "no"
    if word == "nth":
        if not 0 <= int(told[1]) < len(walk):
            raise Refused("InvalidNumber", int(told[1]))
        return order_text(walk[int(told[1])])
    if told[0] not in walk:
        raise Refused("NotMeant", told[0])
    place = walk.index(told[0])
    if word == "place":
        return f"{place}"
    if word == "last":
        return order_text(walk[place - 1]) if place > 0 else "none"
    if place + 1 == len(walk):
        return "none"
    if word == "next":
        return order_text(walk[place + 1])
    (thing, over), = [jump for jump, there in jumps_by_trying(told[0]).items() if there == walk[place + 1]]
    return f"{thing} {over}"


def bars_in(saying):
    return saying[1] if saying[0] == "list" else bars_in(saying[1]) + bars_in(saying[2])
