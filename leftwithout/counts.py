"""Counts over all orders of a web: who has what, how many are without, which lots, how many outcomes."""

from math import factorial

from leftwithout.checks import need_number
from leftwithout.errors import TooMany
from leftwithout.lots import can_be_without, spare_in
from leftwithout.parts import kind_of, others_of, parts_of, round_in
from leftwithout.runs import seat_for
from leftwithout.together import can_together
from leftwithout.ways import but
from leftwithout.webs import need_guest, need_web

MOST_GUESTS = 10


def shares(web):
    """The tuple with the SHARE of each GUEST."""
    return _shares(_need_few(web))


def chance(web, guest):
    """The SHARE of the GUEST."""
    web = need_web(web)
    need_number(guest)
    need_guest(web, guest)
    return _shares(_need_few(web))[guest]


def by_without(web):
    """The tuple that tells, for each number up to that of GUESTS, by how many ORDERS so many are WITHOUT."""
    web = _need_few(web)
    found = [0] * (len(web[1]) + 1)
    for taken, many in _ends(web):
        found[len(web[1]) - len(taken)] += many
    return tuple(found)


def free_orders(web):
    """The tuple that tells, for each PLACE, by how many ORDERS it stays free."""
    web = _need_few(web)
    ends = _ends(web)
    return tuple([sum([many for taken, many in ends if place not in taken]) for place in range(web[0])])


def how_many_lots(web):
    """How many LOTS can be WITHOUT."""
    return len(_lots(_need_few(web)))


def lots(web):
    """The list of the LOTS that can be WITHOUT."""
    return _lots(_need_few(web))


def how_many_outcomes(web):
    """How many OUTCOMES there are."""
    web = _need_few(web)
    return sum([_outcomes_with(web, lot) for lot in _lots(web)])


def _need_few(web):
    """The WEB with tuples throughout; Unfit() if it is none, TooMany() if it has too many GUESTS."""
    web = need_web(web)
    if len(web[1]) > MOST_GUESTS:
        raise TooMany()
    return web


# What stands below is of what is sure to be a WEB of few GUESTS. A stage is a
# dict that tells, for each pair of those who are still to come and the PLACES
# taken, both ascending, by how many ROWS of the others it comes to this.


def _first_stage(web):
    """The stage ahead of all GUESTS."""
    return {(tuple(range(len(web[1]))), ()): 1}


def _next_stage(web, stage):
    """The stage behind one GUEST more."""
    found = {}
    for (left, taken), many in stage.items():
        for guest in left:
            place = seat_for(web[1][guest], taken)
            then = taken if place is None else tuple(sorted(taken + (place,)))
            key = (but(left, guest), then)
            found[key] = found.get(key, 0) + many
    return found


def _ends(web):
    """The list of the pairs of a set of PLACES taken at the end, and by how many ORDERS these are taken."""
    stage = _first_stage(web)
    for _ in web[1]:
        stage = _next_stage(web, stage)
    return [(taken, many) for (_, taken), many in stage.items()]


def _shares(web):
    """The tuple with the SHARE of each GUEST."""
    found = [[0, 0, 0] for _ in web[1]]
    stage = _first_stage(web)
    for count in reversed(range(len(web[1]))):
        for (left, taken), many in stage.items():
            for guest in left:
                pair = web[1][guest]
                # Whoever comes behind it, in whatever order, changes nothing for it.
                found[guest][_seat_number(pair, taken)] += many * factorial(count)
        stage = _next_stage(web, stage)
    return tuple([tuple(own) for own in found])


def _seat_number(pair, taken):
    """0 if the GUEST finds its wanted PLACE free, 1 if its other one, 2 if none."""
    place = seat_for(pair, taken)
    return 2 if place is None else pair.index(place)


def _lots(web):
    """The list of the LOTS that can be WITHOUT."""
    found = []
    ahead = [()]
    while ahead:
        lot = ahead.pop()
        if can_be_without(web, lot):
            found.append(lot)
        # The last one is taken first: so they come ascending. What cannot be
        # together cannot be so with one more.
        more = [lot + (guest,) for guest in reversed(range(len(web[1]))) if lot == () or guest > lot[-1]]
        ahead.extend([own for own in more if can_together(web, own)])
    return found


def _outcomes_with(web, lot):
    """How many OUTCOMES there are in which just the LOT, which can be, is WITHOUT."""
    rest = others_of(web, lot)
    found = 1
    for part in parts_of(web, rest):
        if kind_of(web, rest, part) == "tree":
            # Which PLACE is left free tells all seats of a tree.
            found = found * len(spare_in(web, lot, part))
        else:
            found = found * _ways_round(web, rest, part)
    return found


def _ways_round(web, rest, part):
    """In how many ways the GUESTS of a full PART can be seated: both ways round, but for a RING.

    If all are pleased one way round, the other way round they make a RING.
    """
    pleased = [web[1][guest][0] == place for guest, place in round_in(web, rest, part[0])]
    return 1 if len(set(pleased)) == 1 else 2
