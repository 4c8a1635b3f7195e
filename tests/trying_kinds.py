"""Plain ways to what the package tells of kinds and their things, by trying, to compare with."""

from functools import lru_cache
from itertools import combinations, product

KINDS = ["signs", "partings", "trees", "polygons"]


@lru_cache(maxsize=None)
def all_things(kind, n):
    """All things of n, in some sequence."""
    return tuple({"signs": all_signs, "partings": all_partings, "trees": all_trees, "polygons": all_polygons}[kind](n))


def all_signs(n):
    return list(product((0, 1), repeat=n - 1))


def all_partings(n):
    """Each parting of one thing less, with the greatest thing put into each lot or behind all."""
    if n == 0:
        return [()]
    told = []
    for lots in all_partings(n - 1):
        told += [lots[:k] + (lots[k] + (n,),) + lots[k + 1:] for k in range(len(lots))]
        told.append(lots + ((n,),))
    return told


def all_trees(n):
    if n == 0:
        return [()]
    return [
        (left, right)
        for many in range(n)
        for left in all_trees(many) for right in all_trees(n - 1 - many)
    ]


def all_cuts(n):
    pairs = combinations(range(n + 2), 2)
    return [(a, b) for a, b in pairs if b - a > 1 and (a, b) != (0, n + 1)]


def cross(one, other):
    """Whether of a cut's corners just one lies between those of the other, none being shared."""
    if set(one) & set(other):
        return False
    return len([corner for corner in one if other[0] < corner < other[1]]) == 1


@lru_cache(maxsize=None)
def all_polygons(n):
    return [
        cuts for cuts in combinations(all_cuts(n), n - 1)
        if not any(cross(one, other) for one, other in combinations(cuts, 2))
    ]


def order_by_trying(kind, n, thing):
    if kind == "signs":
        left = [k + 1 for k in range(1, n) if thing[k - 1] == 1]
        right = [k + 1 for k in range(1, n) if thing[k - 1] == 0]
        return (*reversed(left), 1, *right)
    if kind == "partings":
        return sum(sorted(thing, key=lambda lot: -lot[0]), ())
    if kind == "polygons":
        thing = tree_of_polygon(n, thing, (0, n + 1))
    return tuple(knots_from_top(numbered(thing, iter(range(1, n + 1)))))


def numbered(tree, numbers):
    """The tree with a number at each knot, from left to right."""
    if tree == ():
        return None
    left = numbered(tree[0], numbers)
    number = next(numbers)
    return (number, left, numbered(tree[1], numbers))


def knots_from_top(tree):
    return [] if tree is None else [tree[0]] + knots_from_top(tree[1]) + knots_from_top(tree[2])


def tree_of_polygon(n, cuts, side):
    a, b = side
    if b == a + 1:
        return ()
    sides = set(cuts) | {(k, k + 1) for k in range(n + 1)}
    thirds = [c for c in range(a + 1, b) if (a, c) in sides and (c, b) in sides]
    assert len(thirds) == 1
    return (tree_of_polygon(n, cuts, (a, thirds[0])), tree_of_polygon(n, cuts, (thirds[0], b)))


@lru_cache(maxsize=None)
def steps_by_trying(kind, n, thing):
    """All things that are one smallest step apart from a thing."""
    if kind == "signs":
        return {thing[:k] + (1 - thing[k],) + thing[k + 1:] for k in range(n - 1)}
    if kind == "partings":
        return {other for k in range(1, n + 1) for other in put_elsewhere(thing, k)} - {thing}
    if kind == "trees":
        return set(turned_trees(thing))
    found = set()
    for cut in thing:
        for other in all_cuts(n):
            cuts = tuple(sorted({*thing, other} - {cut}))
            if other not in thing and cuts in all_polygons(n):
                found.add(cuts)
    return found


def put_elsewhere(lots, k):
    """The partings in which the thing k stands in some lot or alone."""
    others = [tuple(thing for thing in lot if thing != k) for lot in lots]
    others = [lot for lot in others if lot]
    told = [others + [(k,)]]
    told += [others[:at] + [tuple(sorted(others[at] + (k,)))] + others[at + 1:] for at in range(len(others))]
    return [tuple(sorted(made)) for made in told]


def turned_trees(tree):
    if tree == ():
        return []
    left, right = tree
    told = [(other, right) for other in turned_trees(left)] + [(left, other) for other in turned_trees(right)]
    if left != ():
        told.append((left[0], (left[1], right)))
    if right != ():
        told.append(((left, right[0]), right[1]))
    return told
