"""Wants told back: what each guest wants, as far as it can be told from what was taken."""

from leftwithout.checks import as_tuples, is_numbers
from leftwithout.errors import CanNot, Unfit
from leftwithout.runs import is_order, need_row, taking_of
from leftwithout.takings import need_taking
from leftwithout.webs import need_web


def is_wants(web, thing):
    """Whether thing is WANTS of the WEB."""
    return _is_wants_of(need_web(web), thing)


def with_wants(web, wants):
    """The WEB with the GUESTS turned that have 1."""
    web = need_web(web)
    return _with_wants(web, _need_wants(web, wants))


def wants_fit(web, row, taking, wants):
    """Whether the WANTS fit the ROW and the TAKING."""
    web, row, taking = _need_all(web, row, taking)
    wants = _need_wants(web, wants)
    return taking_of(_with_wants(web, wants), row) == taking


def can_be_seen(web, row, taking):
    """Whether some WANTS fit the ROW and the TAKING."""
    web, row, taking = _need_all(web, row, taking)
    return _is_seen(web, row, taking)


def how_many_wants(web, row, taking):
    """How many WANTS fit the ROW and the TAKING."""
    web, row, taking = _need_all(web, row, taking)
    if not _is_seen(web, row, taking):
        return 0
    return 1 << (len(web[1]) - len(_told(web, row, taking)))


def sure_wants(web, row, taking):
    """The tuple that tells what each GUEST has in all WANTS that fit, else None; CanNot() if none fit."""
    web, row, taking = _need_all(web, row, taking)
    if not _is_seen(web, row, taking):
        raise CanNot()
    told = _told(web, row, taking)
    return tuple([web[1][guest].index(taking[guest]) if guest in told else None for guest in range(len(web[1]))])


def told_by(web, row):
    """The LOT of the GUESTS that are told by the ROW and what it leads to."""
    web = need_web(web)
    row = need_row(web, row)
    return _told_by(web, row)


def drains(web):
    """The list of all DRAINS."""
    return _drains(need_web(web))


def most_told(web):
    """The most GUESTS that one ORDER tells."""
    return _most_told(need_web(web))


def telling_order(web):
    """An ORDER that tells the most GUESTS."""
    web = need_web(web)
    # One PLACE of each DRAIN stays till the end. To each other one belongs a
    # GUEST that wants it and could have one nearer to these. Who has the
    # farthest one comes first, and so finds both its PLACES free.
    seen = {drain[0]: True for drain in _drains(web)}
    near = list(seen)
    row = []
    while near:
        place = near[0]
        near = near[1:]
        for guest, (wish, other) in enumerate(web[1]):
            if other == place and wish not in seen:
                seen[wish] = True
                near.append(wish)
                row.append(guest)
    return tuple(row[::-1] + [guest for guest in range(len(web[1])) if guest not in row])


def is_telling(web, thing):
    """Whether thing is an ORDER that tells the most GUESTS."""
    web = need_web(web)
    return is_order(web, thing) and len(_told_by(web, thing)) == _most_told(web)


def _need_wants(web, wants):
    """The WANTS as a tuple; Unfit() if they are none of the WEB."""
    plain = as_tuples(wants, 1)
    if not _is_wants_of(web, plain):
        raise Unfit()
    return plain


def _need_all(web, row, taking):
    """The WEB, the ROW and the TAKING; Unfit() if one is none, or if somebody who is not of the ROW has a PLACE."""
    web = need_web(web)
    row = need_row(web, row)
    taking = need_taking(web, taking)
    if any([place is not None and guest not in row for guest, place in enumerate(taking)]):
        raise Unfit()
    return (web, row, taking)


# What stands below is of what is sure to be such.


def _is_wants_of(web, thing):
    """Whether thing is WANTS of the WEB."""
    return is_numbers(thing) and len(thing) == len(web[1]) and all([own in (0, 1) for own in thing])


def _with_wants(web, wants):
    """The WEB with the GUESTS turned that have 1."""
    return (web[0], tuple([pair[::-1] if own == 1 else pair for pair, own in zip(web[1], wants)]))


def _free_as_they_come(web, row, taking):
    """The list that tells, for each GUEST of the ROW, the PLACES at which it ends that are free as it comes."""
    # Nobody moves later: so what those ahead have at the end they had then.
    had = [taking[guest] for guest in row]
    return [[place for place in web[1][guest] if place not in had[:at]] for at, guest in enumerate(row)]


def _is_seen(web, row, taking):
    """Whether some WANTS fit: each takes one of its free PLACES, None if there is none."""
    free = _free_as_they_come(web, row, taking)
    return all([taking[guest] in (own or [None]) for guest, own in zip(row, free)])


def _told(web, row, taking):
    """The LOT of the GUESTS of the ROW both of whose PLACES are free as they come."""
    free = _free_as_they_come(web, row, taking)
    return tuple(sorted([guest for guest, own in zip(row, free) if len(own) == 2]))


def _told_by(web, row):
    """The LOT of the GUESTS that are told by the ROW and what it leads to."""
    return _told(web, row, taking_of(web, row))


def _reached_from(web, place):
    """The set of the PLACE and of all to which one comes from it by STEPS."""
    found = [place]
    near = [place]
    while near:
        start = near.pop()
        for wish, other in web[1]:
            if wish == start and other not in found:
                found.append(other)
                near.append(other)
    return tuple(sorted(found))


def _drains(web):
    """The list of all DRAINS."""
    reached = [_reached_from(web, place) for place in range(web[0])]
    # From a PLACE of a DRAIN one comes just to the PLACES of it, from any other
    # one to some from which no STEPS lead back.
    found = [own for own in reached if all([reached[place] == own for place in own])]
    return sorted(set(found))


def _most_told(web):
    """The most GUESTS that one ORDER tells."""
    return web[0] - len(_drains(web))
