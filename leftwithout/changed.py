"""Webs with other names, put side by side, with a guest more or less, turned."""

from leftwithout.checks import as_tuples, is_each_below, need_number
from leftwithout.errors import Unfit
from leftwithout.parts import need_web_and_lot
from leftwithout.takings import need_taking
from leftwithout.webs import is_guest_among, need_guest, need_place, need_web


def renamed(web, places, guests):
    """The WEB with PLACE p named places[p], GUEST g having the number guests[g]."""
    web = need_web(web)
    places = _need_each(places, web[0])
    guests = _need_each(guests, len(web[1]))
    pairs = [_named(pair, places) for pair in web[1]]
    return (web[0], _at_numbers(pairs, guests))


def taking_renamed(web, taking, places, guests):
    """The TAKING of the renamed WEB that the TAKING comes to be."""
    web = need_web(web)
    taking = need_taking(web, taking)
    places = _need_each(places, web[0])
    guests = _need_each(guests, len(web[1]))
    seats = [None if place is None else places[place] for place in taking]
    return _at_numbers(seats, guests)


def put_beside(web, other):
    """Both as one WEB, PLACES and GUESTS of the other behind those of the WEB."""
    web = need_web(web)
    other = need_web(other)
    names = [web[0] + place for place in range(other[0])]
    return (web[0] + other[0], web[1] + _all_named(other, names))


def put_together(web, other, place, goal):
    """Both as one WEB, PLACE goal of the other being place of the WEB."""
    web = need_web(web)
    other = need_web(other)
    need_number(place)
    need_number(goal)
    need_place(web, place)
    need_place(other, goal)
    behind = [web[0] + k for k in range(other[0] - 1)]
    names = behind[:goal] + [place] + behind[goal:]
    return (web[0] + len(behind), web[1] + _all_named(other, names))


def guest_more(web, guest):
    """The WEB with this pair as its last GUEST."""
    web = need_web(web)
    pair = as_tuples(guest, 1)
    if not is_guest_among(web[0], pair):
        raise Unfit()
    return (web[0], web[1] + (pair,))


def guest_less(web, guest):
    """The WEB without the GUEST of this number."""
    web = need_web(web)
    need_number(guest)
    need_guest(web, guest)
    return (web[0], web[1][:guest] + web[1][guest + 1:])


def turned(web, lot):
    """The WEB with the ends of each GUEST of the LOT exchanged."""
    web, lot = need_web_and_lot(web, lot)
    return (web[0], tuple([pair[::-1] if guest in lot else pair for guest, pair in enumerate(web[1])]))


def kept_guests(web, lot):
    """The WEB with the GUESTS of the LOT alone."""
    web, lot = need_web_and_lot(web, lot)
    return (web[0], tuple([web[1][guest] for guest in lot]))


def _need_each(value, many):
    """The value as a tuple; Unfit() if it has not all numbers from 0 on below many, each once."""
    plain = as_tuples(value, 1)
    if not is_each_below(plain, many):
        raise Unfit()
    return plain


def _named(pair, names):
    """The pair with the names of its PLACES."""
    return (names[pair[0]], names[pair[1]])


def _all_named(web, names):
    """The GUESTS of the WEB with the names of its PLACES."""
    return tuple([_named(pair, names) for pair in web[1]])


def _at_numbers(values, numbers):
    """The tuple of the values, each at its number."""
    found = dict(zip(numbers, values))
    return tuple([found[k] for k in range(len(found))])
