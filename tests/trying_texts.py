"""Plain ways to texts and back, to compare with: by patterns, and by replacing what is within by its number."""

import re

from tests.trying_kinds import cross

NUMBER = r"(?:0|-?[1-9][0-9]{0,8})"


def order_text(order):
    text = ""
    for thing in order:
        text += f" {thing}"
    return text[1:]


def bar_text(bar):
    pattern, near = bar
    text = f"{pattern[0]}"
    for place in range(1, len(pattern)):
        text += f"*{pattern[place]}" if near == place - 1 else f" {pattern[place]}"
    return text


def saying_text(saying):
    if saying == ("list", ()):
        return "(list [-])"
    if saying[0] == "list":
        text = ""
        for bar in saying[1]:
            text += f", {bar_text(bar)}"
        return "(list [" + text[2:] + "])"
    return "(" + saying[0] + " " + saying_text(saying[1]) + " " + saying_text(saying[2]) + ")"


def thing_text(kind, thing):
    if kind == "trees":
        return re.sub(r"[, ]", "", re.sub(r"\(\)", ".", repr(thing)))
    if kind == "partings":
        return repr(thing)[2:-2].strip("),(").replace(",), (", " / ").replace("), (", " / ").replace(",", "")
    if thing == ():
        return "-"
    if kind == "signs":
        return re.sub(r"[^01]", "", repr(thing))
    return " ".join(re.findall(r"\d+-\d+", repr(thing).replace(", ", "-")))


def numbers_by_trying(text):
    """The integers in a text, parted by single blanks, or None."""
    if not re.fullmatch(f"{NUMBER}( {NUMBER})*", text):
        return None
    return tuple(int(word) for word in text.split())


def order_by_pattern(text):
    told = numbers_by_trying(text)
    return told if told is not None and sorted(told) == list(range(1, len(told) + 1)) else None


def jump_by_pattern(text):
    told = numbers_by_trying(text)
    if told is None or len(told) != 2 or told[0] < 2 or told[1] == 0:
        return None
    return told


def bar_by_pattern(text):
    pattern = order_by_pattern(text.replace("*", " "))
    if pattern is None or len(pattern) < 2 or text.count("*") > 1:
        return None
    return (pattern, text[:text.index("*")].count(" ") if "*" in text else None)


def saying_by_pattern(text):
    """The saying that has a text, by replacing what is within by its number, from the innermost on."""
    if "<" in text or ">" in text:
        return None
    made = []

    def list_made(found):
        inner = found.group(1)
        bars = () if inner == "-" else tuple(bar_by_pattern(bar) for bar in inner.split(", "))
        made.append(None if None in bars else ("list", bars))
        return f"<{len(made) - 1}>"

    def pair_made(found):
        one, other = made[int(found.group(2))], made[int(found.group(3))]
        made.append(None if one is None or other is None else (found.group(1), one, other))
        return f"<{len(made) - 1}>"

    text = re.sub(r"\(list \[([^\[\]]*)\]\)", list_made, text)
    while not re.fullmatch(r"<\d+>", text):
        text, many = re.subn(r"\((both|either) <(\d+)> <(\d+)>\)", pair_made, text)
        if many == 0:
            return None
    return made[int(text[1:-1])]


def tree_by_pattern(text):
    if set(text) - set("(.)"):
        return None
    made = [()]

    def knot_made(found):
        made.append((made[int(found.group(1))], made[int(found.group(2))]))
        return f"<{len(made) - 1}>"

    text = text.replace(".", "<0>")
    while not re.fullmatch(r"<\d+>", text):
        text, many = re.subn(r"\(<(\d+)><(\d+)>\)", knot_made, text)
        if many == 0:
            return None
    # That of none stands within others alone.
    return made[int(text[1:-1])] or None


def thing_by_pattern(kind, text):
    if kind == "trees":
        return tree_by_pattern(text)
    if kind == "signs":
        return tuple(int(sign) for sign in text if sign != "-") if re.fullmatch("-|[01]+", text) else None
    if kind == "partings":
        lots = tuple(numbers_by_trying(lot) for lot in text.split(" / "))
        if None in lots or order_by_pattern(order_text(sorted(sum(lots, ())))) is None:
            return None
        return lots if lots == tuple(sorted(tuple(sorted(lot)) for lot in lots)) else None
    if text == "-":
        return ()
    if not re.fullmatch(r"\d+-\d+( \d+-\d+)*", text):
        return None
    words = re.findall(r"\d+", text)
    cuts = tuple((int(a), int(b)) for a, b in zip(words[::2], words[1::2]))
    if any(str(int(word)) != word for word in words) or list(cuts) != sorted(set(cuts)):
        return None
    last = len(cuts) + 2
    if any(b > last or b - a < 2 or (a, b) == (0, last) or any(cross((a, b), cut) for cut in cuts) for a, b in cuts):
        return None
    return cuts


def expected(pattern, text):
    """What a reader has to do with a text, going by a way to read one line: return a value, or refuse by a number."""
    line, newline, _ = text.partition("\n")
    told = pattern(line)
    if told is None:
        return (None, 1)
    return (None, 2) if newline else (told, 0)


def bent_texts(text, signs=" 0129()[],*-/.x~\n"):
    """Texts bent by one sign: left out, put in, put in the place of another, two exchanged; and second lines."""
    bent = [text + "\n", text + "\n" + text, "\n" + text, text + "\n\n", text + "\nx", text + " \n", "", "\n", " "]
    for k in range(len(text)):
        bent.append(text[:k] + text[k + 1:])
        bent.append(text[:k] + text[k + 1:k + 2] + text[k] + text[k + 2:])
        bent += [text[:k] + sign + text[k + 1:] for sign in signs]
    bent += [text[:k] + sign + text[k:] for sign in signs for k in range(len(text) + 1)]
    return bent
