"""Webs of things tied to one another: taken apart by corners, and gone through by all directions without a round."""

from onejumps.errors import HasRound, InvalidThing, InvalidWeb
from onejumps.orders import is_whole


def is_web(told):
    """Return True if a value is a web, otherwise False."""
    if not isinstance(told, tuple) or len(told) != 2:
        return False
    n, ties = told
    if not is_whole(n) or n < 1 or not isinstance(ties, tuple):
        return False
    if not all(_is_pair(tie) and 1 <= tie[0] < tie[1] <= n for tie in ties):
        return False
    return all([one < other for one, other in zip(ties, ties[1:])])


def corners(web):
    """Return ("order", things), as a web is taken apart by corners, or ("round", things) if it can't be.

    Each time the greatest corner is taken out; the round is the first one of the whole web.
    """
    _check_web(web)
    taken = _taken_out(web)
    if len(taken) == web[0]:
        return ("order", taken)
    return ("round", _round_of_web(web))


def directions(web):
    """Return the list of the walk of the directions without a round of a web that is taken apart by corners."""
    _check_web(web)
    told = [()]
    for thing, near in _put_back(web):
        told = _longer_walk(told, thing, near)
    return [tuple([tie if tie in leads else tie[::-1] for tie in web[1]]) for leads in told]


def exchanged(web, one, other):
    """Return the index of the one tie that two directions of a web have unlike, or None if that is not just one."""
    _check_web(web)
    _check_direction(web, one)
    _check_direction(web, other)
    unlike = [at for at, tie in enumerate(one) if tie != other[at]]
    return unlike[0] if len(unlike) == 1 else None


def round_of(web, told):
    """Return the first round of a direction of a web, each thing leading to the next one, or None."""
    _check_web(web)
    _check_direction(web, told)
    return _first_round(web[0], told, 3)


def how_many_directions(web):
    """Return how many directions without a round a web has that is taken apart by corners."""
    _check_web(web)
    many = 1
    for _, near in _put_back(web):
        many = many * (len(near) + 1)
    return many


def _is_pair(told):
    """Return True if a value is a tuple of two integers, otherwise False."""
    return isinstance(told, tuple) and len(told) == 2 and is_whole(told[0]) and is_whole(told[1])


def _check_web(web):
    """Raise InvalidWeb for what is no web."""
    if not is_web(web):
        raise InvalidWeb(web)


def _check_direction(web, told):
    """Raise InvalidThing for what is no direction of a web."""
    if not isinstance(told, tuple) or not all(_is_pair(pair) for pair in told):
        raise InvalidThing(told)
    if [tuple(sorted(pair)) for pair in told] != list(web[1]):
        raise InvalidThing(told)


def _taken_out(web):
    """Return the tuple of the things that can be taken out one after another, each time the greatest corner."""
    n, ties = web
    left = list(range(1, n + 1))
    taken = []
    while left:
        found = [thing for thing in left if _is_corner(ties, left, thing)]
        if not found:
            break
        taken.append(found[-1])
        left.remove(found[-1])
    return tuple(taken)


def _is_corner(ties, left, thing):
    """Return True if all of those left that are tied to a thing are tied to one another."""
    near = _tied(ties, left, thing)
    return all((one, other) in ties for one in near for other in near if one < other)


def _tied(ties, among, thing):
    """Return the list of those among some that are tied to a thing."""
    return [other for other in among if (other, thing) in ties or (thing, other) in ties]


def _round_of_web(web):
    """Return the first round of four or more things of a web, only those tied that follow one another."""
    n, ties = web
    # Along a tie a round can go either way.
    return _first_round(n, ties + tuple([tie[::-1] for tie in ties]), 4)


def _first_round(n, leads, least):
    """Return the first round of at least so many things along leads, pairs (from, to), or None.

    It is of the shortest the least, beginning with its least thing. Only those are looked for in which none
    leads to another one that does not follow it: of rounds that are led one way alone the shortest are such.
    """
    ways = [(thing,) for thing in range(1, n + 1)]
    while ways:
        longer = []
        # The ways ascend, since those that they were made of did.
        for way in ways:
            for thing in range(way[0] + 1, n + 1):
                if thing in way or (way[-1], thing) not in leads:
                    continue
                tied = _tied(leads, way, thing)
                if tied == [way[-1]]:
                    longer.append(way + (thing,))
                elif tied == [way[0], way[-1]] and (thing, way[0]) in leads and len(way) + 1 >= least:
                    return way + (thing,)
        ways = longer
    return None


def _put_back(web):
    """Return the list of (thing, near) as a web's things are put back, near being those there tied to it."""
    taken = _taken_out(web)
    if len(taken) < web[0]:
        raise HasRound(_round_of_web(web))
    back = taken[::-1]
    return [(thing, _tied(web[1], back[:at], thing)) for at, thing in enumerate(back)]


def _longer_walk(told, thing, near):
    """Return the walk told, of tuples of leads, with a thing put back that is tied to those near."""
    longer = []
    for at, leads in enumerate(told):
        line = _in_line(near, leads)
        led = [leads + _leads_at(thing, line, place) for place in range(len(line) + 1)]
        longer.extend(led if at % 2 else led[::-1])
    return longer


def _in_line(near, leads):
    """Return the list of things, all of them tied to one another, as they lead along, each to all behind."""
    placed = [(len([other for other in near if (other, thing) in leads]), thing) for thing in near]
    return [thing for _, thing in sorted(placed)]


def _leads_at(thing, line, place):
    """Return the tuple of leads of a thing that stands at a place in a line."""
    return tuple([(other, thing) for other in line[:place]] + [(thing, other) for other in line[place:]])
