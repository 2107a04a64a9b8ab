"""Takings: who has which place, who must have come ahead of whom, and which are outcomes."""

from leftwithout.checks import as_tuples, is_number, need_number
from leftwithout.errors import CanNot, Unfit
from leftwithout.runs import is_order, taking_of
from leftwithout.ways import all_ahead, least_row
from leftwithout.webs import need_guest, need_place, need_web


def is_taking(web, thing):
    """Whether thing is a TAKING of the WEB."""
    return _is_taking_of(need_web(web), thing)


def need_taking(web, taking):
    """The TAKING as a tuple; Unfit() if it is none of the WEB."""
    plain = as_tuples(taking, 1)
    if not _is_taking_of(web, plain):
        raise Unfit()
    return plain


def need_outcome(web, outcome):
    """The OUTCOME as a tuple; Unfit() if it is none of the WEB."""
    plain = need_taking(web, outcome)
    if not is_outcome_of(web, plain):
        raise Unfit()
    return plain


def arrows(web, taking):
    """The set of the ARROWS of the TAKING."""
    web = need_web(web)
    ahead = ahead_in(web, need_taking(web, taking))
    return tuple(sorted([(first, later) for later, firsts in enumerate(ahead) for first in firsts]))


def lacking(web, taking):
    """The set of the GUESTS that are lacking somebody in the TAKING."""
    web = need_web(web)
    return lacking_in(web, need_taking(web, taking))


def is_sound(web, taking):
    """Whether no GUEST is lacking somebody in the TAKING."""
    return lacking(web, taking) == ()


def holder(web, taking, place):
    """The GUEST who has the PLACE, None if nobody has."""
    web = need_web(web)
    taking = need_taking(web, taking)
    need_number(place)
    need_place(web, place)
    return taking.index(place) if place in taking else None


def is_outcome(web, taking):
    """Whether the TAKING is an OUTCOME."""
    web = need_web(web)
    return is_outcome_of(web, need_taking(web, taking))


def order_of(web, taking):
    """An ORDER that has this OUTCOME; CanNot() if there is none."""
    web = need_web(web)
    taking = need_taking(web, taking)
    if not is_outcome_of(web, taking):
        raise CanNot()
    return _row_of(web, taking)


def is_order_of(web, taking, thing):
    """Whether thing is an ORDER that has the TAKING as its OUTCOME."""
    web = need_web(web)
    taking = need_taking(web, taking)
    return is_order(web, thing) and taking_of(web, thing) == taking


def behind_whom(web, taking, guest):
    """The set of the GUESTS that come ahead of this one in all ORDERS of the TAKING; CanNot() without ORDERS."""
    web = need_web(web)
    taking = need_taking(web, taking)
    need_number(guest)
    need_guest(web, guest)
    if not is_outcome_of(web, taking):
        raise CanNot()
    return tuple(all_ahead(ahead_in(web, taking), guest))


# What stands below is of a WEB and a TAKING that are sure to be such.


def ahead_in(web, taking):
    """The tuple that tells, for each GUEST, the tuple of those who have an ARROW to it."""
    return tuple([_who_have(taking, _missed_by(pair, place)) for pair, place in zip(web[1], taking)])


def lacking_in(web, taking):
    """The set of the GUESTS that are lacking somebody."""
    found = []
    for guest, pair in enumerate(web[1]):
        missed = _missed_by(pair, taking[guest])
        if len(_who_have(taking, missed)) < len(missed):
            found.append(guest)
    return tuple(found)


def is_outcome_of(web, taking):
    """Whether the TAKING is an OUTCOME."""
    return lacking_in(web, taking) == () and len(_row_of(web, taking)) == len(taking)


def _row_of(web, taking):
    """The least ROW along all ARROWS: of all GUESTS if there is no RING."""
    return least_row(ahead_in(web, taking), tuple(range(len(taking))))


def _missed_by(pair, place):
    """The tuple of the PLACES that a GUEST with these ends had to find taken to get this PLACE, or None."""
    return pair if place is None else pair[:pair.index(place)]


def _who_have(taking, places):
    """The tuple of the GUESTS who have these PLACES."""
    return tuple([taking.index(place) for place in places if place in taking])


def _is_taking_of(web, thing):
    """Whether thing is a TAKING of what is sure to be a WEB."""
    if not isinstance(thing, tuple) or len(thing) != len(web[1]):
        return False
    if not all([_can_have(pair, place) for pair, place in zip(web[1], thing)]):
        return False
    had = [place for place in thing if place is not None]
    return len(set(had)) == len(had)


def _can_have(pair, place):
    """Whether a GUEST with these ends can have this as its PLACE, or None."""
    return place is None or (is_number(place) and place in pair)
