"""Signs, partings, trees and polygons: their things, led to the orders of families and back, and their steps."""

from math import comb

from onejumps.errors import InvalidKind, InvalidThing, NotMeant
from onejumps.families import is_meant
from onejumps.orders import check_many, check_order, is_whole, with_next
from onejumps.walks import tame_walk

KINDS = ("signs", "partings", "trees", "polygons")

SIGNS = ("list", (((1, 3, 2), None), ((2, 3, 1), None)))
PARTINGS = ("list", (((1, 3, 2), 1),))
TREES = ("list", (((2, 3, 1), None),))


def is_thing(kind, n, told):
    """Return True if a value is a thing of n of the kind, otherwise False."""
    check_kind(kind)
    check_many(n)
    return _is_of(kind, n, told)


def family(kind):
    """Return the saying to whose orders the things of a kind are led."""
    check_kind(kind)
    if kind == "signs":
        return SIGNS
    if kind == "partings":
        return PARTINGS
    return TREES


def order_of(kind, n, thing):
    """Return the order to which a thing of n is led."""
    check_kind(kind)
    check_many(n)
    if not _is_of(kind, n, thing):
        raise InvalidThing(thing)
    if kind == "signs":
        return _order_of_signs(thing)
    if kind == "partings":
        return tuple([number for lot in thing[::-1] for number in lot])
    if kind == "trees":
        return _order_of_tree(thing, 1)
    return _order_of_cuts(thing, 0, n + 1)


def thing_of(kind, order):
    """Return the thing that is led to an order of the kind's family."""
    check_kind(kind)
    check_order(order)
    if not is_meant(family(kind), order):
        raise NotMeant(order)
    return _thing_led_to(kind, order)


def things(kind, n):
    """Return the list of all things of n, in the sequence of the walk of the kind's family."""
    check_kind(kind)
    check_many(n)
    return [_thing_led_to(kind, order) for order in tame_walk(family(kind), n)]


def is_step(kind, n, one, other):
    """Return True if one smallest step leads from one thing of n to another, otherwise False."""
    check_kind(kind)
    check_many(n)
    for thing in (one, other):
        if not _is_of(kind, n, thing):
            raise InvalidThing(thing)
    if kind == "signs":
        return sum([1 for sign, there in zip(one, other) if sign != there]) == 1
    if kind == "partings":
        return one != other and any([_without(one, k) == _without(other, k) for k in range(1, n + 1)])
    if kind == "trees":
        return _is_turn(one, other)
    return len([cut for cut in one if cut not in other]) == 1


def how_many(kind, n):
    """Return how many things of n there are."""
    check_kind(kind)
    check_many(n)
    if kind == "signs":
        return 1 << (n - 1)
    if kind == "partings":
        return _how_many_partings(n)
    return comb(2 * n, n) // (n + 1)


def check_kind(kind):
    """Raise InvalidKind for what is no kind."""
    if kind not in KINDS:
        raise InvalidKind(kind)


def _is_of(kind, n, told):
    """Return what `is_thing` does, of a kind and a number that are known to be right."""
    if not isinstance(told, tuple):
        return False
    if kind == "signs":
        return len(told) == n - 1 and all(is_whole(sign) and sign in (0, 1) for sign in told)
    if kind == "partings":
        return all(_is_lot(lot) for lot in told) and _are_parting(n, told)
    if kind == "trees":
        return _is_tree(n, told)
    return len(told) == n - 1 and all(_is_cut(n, cut) for cut in told) and _are_apart(told)


def _is_lot(told):
    """Return True if a value is a tuple of integers, one or more, otherwise False."""
    return isinstance(told, tuple) and len(told) > 0 and all(is_whole(number) for number in told)


def _are_parting(n, lots):
    """Return True if lots have 1 to n just once, in them and among them ascending, otherwise False."""
    numbers = [number for lot in lots for number in lot]
    # The length is asked first, since n may be far greater.
    if len(numbers) != n or sorted(numbers) != list(range(1, n + 1)):
        return False
    return list(lots) == sorted([tuple(sorted(lot)) for lot in lots])


def _is_tree(n, told):
    """Return True if a value is a tree with n knots, otherwise False."""
    knots = 0
    left = [told]
    # What is told may be far deeper than a tree with n knots can be.
    while left and knots <= n:
        tree = left.pop()
        if not isinstance(tree, tuple) or len(tree) not in (0, 2):
            return False
        if tree:
            knots += 1
            left.extend(tree)
    return knots == n


def _is_cut(n, told):
    """Return True if a value is a cut of a polygon of n + 2 corners, otherwise False."""
    if not isinstance(told, tuple) or len(told) != 2:
        return False
    a, b = told
    return is_whole(a) and is_whole(b) and 0 <= a and a + 2 <= b <= n + 1 and told != (0, n + 1)


def _are_apart(cuts):
    """Return True if cuts ascend, none of them twice, and no two of them cross, otherwise False."""
    if not all([one < other for one, other in zip(cuts, cuts[1:])]):
        return False
    return not any(a < c < b < d for a, b in cuts for c, d in cuts)


def _order_of_signs(signs):
    """Return the order to which signs are led."""
    order = (1,)
    for sign in signs:
        order = with_next(order, 0 if sign == 1 else len(order))
    return order


def _order_of_tree(tree, first):
    """Return the numbers of a tree's knots, given from first on, in the sequence of its order."""
    if not tree:
        return ()
    left = _order_of_tree(tree[0], first)
    top = first + len(left)
    return (top,) + left + _order_of_tree(tree[1], top + 1)


def _order_of_cuts(cuts, a, b):
    """Return the third corners of the triangles at and behind the side (a, b), in the sequence of their order."""
    for c in range(a + 1, b):
        if _is_side(cuts, a, c) and _is_side(cuts, c, b):
            return (c,) + _order_of_cuts(cuts, a, c) + _order_of_cuts(cuts, c, b)
    return ()


def _is_side(cuts, a, b):
    """Return True if corners are neighbours or parted by a cut, otherwise False."""
    return a + 1 == b or (a, b) in cuts


def _thing_led_to(kind, order):
    """Return what `thing_of` does, of a kind and an order of its family that are known to be right."""
    if kind == "signs":
        return tuple([1 if order.index(k) < order.index(1) else 0 for k in range(2, len(order) + 1)])
    if kind == "partings":
        return _lots_of(order)
    if kind == "trees":
        return _tree_of(order)
    # The first one is the side (0, n + 1), which is no cut.
    return tuple(sorted(_sides_of(order, 0, len(order) + 1)[1:]))


def _lots_of(order):
    """Return the parting that is led to an order."""
    lots = [[order[0]]]
    for ahead, number in zip(order, order[1:]):
        # The next lot has a lesser first thing than the last one had, and so than all that was ahead.
        if number < ahead:
            lots.append([])
        lots[-1].append(number)
    return tuple([tuple(lot) for lot in lots[::-1]])


def _tree_of(order):
    """Return the tree whose knots' numbers, in the sequence of its order, are these."""
    if not order:
        return ()
    left, right = _parts_behind_top(order)
    return (_tree_of(left), _tree_of(right))


def _sides_of(order, a, b):
    """Return the list of the sides that have, third corners being in this order, the triangles from (a, b) on."""
    if not order:
        return []
    left, right = _parts_behind_top(order)
    return [(a, b)] + _sides_of(left, a, order[0]) + _sides_of(right, order[0], b)


def _parts_behind_top(order):
    """Return the left and the right tree's part of the order of a tree with one knot or more."""
    left = [number for number in order if number < order[0]]
    right = [number for number in order if number > order[0]]
    return left, right


def _without(parting, number):
    """Return the ascending list of the lots that are left of a parting if a number is taken out."""
    lots = [tuple([other for other in lot if other != number]) for lot in parting]
    return sorted([lot for lot in lots if lot])


def _is_turn(one, other):
    """Return True if trees are unlike at one place alone, where one has ((x, y), z) and the other (x, (y, z))."""
    while one and other:
        if _leans(one, other) or _leans(other, one):
            return True
        # What is unlike is looked for on the one side where it can be alone.
        if one[0] == other[0]:
            one, other = one[1], other[1]
        elif one[1] == other[1]:
            one, other = one[0], other[0]
        else:
            return False
    return False


def _leans(one, other):
    """Return True if a tree is ((x, y), z), and another one (x, (y, z))."""
    if not one[0]:
        return False
    (x, y), z = one
    return other == (x, (y, z))


def _how_many_partings(n):
    """Return the number of the partings of n things."""
    # In the triangle of these numbers each row begins with the end of the one above, and each next number in it is
    # the sum of the one ahead and of the one above that.
    row = [1]
    for _ in range(n - 1):
        longer = [row[-1]]
        for above in row:
            longer.append(longer[-1] + above)
        row = longer
    return row[-1]
