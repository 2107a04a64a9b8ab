"""Rows of guests, and what they lead to."""

from leftwithout.checks import as_tuples, is_numbers, need_number
from leftwithout.errors import CanNot, Unfit
from leftwithout.webs import need_guest, need_web


def is_row(web, thing):
    """Whether thing is a ROW of the WEB."""
    return is_row_of(need_web(web), thing)


def is_order(web, thing):
    """Whether thing is an ORDER of the WEB."""
    return _is_order_of(need_web(web), thing)


def need_row(web, row):
    """The ROW as a tuple; Unfit() if it is none of the WEB."""
    plain = as_tuples(row, 1)
    if not is_row_of(web, plain):
        raise Unfit()
    return plain


def need_order(web, order):
    """The ORDER as a tuple; Unfit() if it is none of the WEB."""
    plain = as_tuples(order, 1)
    if not _is_order_of(web, plain):
        raise Unfit()
    return plain


def seated(web, row):
    """The TAKING behind the ROW: None for who has not come or is WITHOUT."""
    web = need_web(web)
    return taking_of(web, need_row(web, row))


def outcome_of(web, order):
    """The OUTCOME of the ORDER."""
    web = need_web(web)
    return taking_of(web, need_order(web, order))


def moments(web, row):
    """The tuple of the MOMENTS of the ROW."""
    web = need_web(web)
    row = need_row(web, row)
    taking = taking_of(web, row)
    # Nobody moves later, so the last TAKING tells the earlier ones, too.
    seats = [taking[guest] for guest in row]
    return tuple([_places_in(seats[:come]) for come in range(len(row) + 1)])


def free_places(web, row):
    """The set of the PLACES that are free behind the ROW."""
    web = need_web(web)
    taking = taking_of(web, need_row(web, row))
    return tuple([place for place in range(web[0]) if place not in taking])


def without_of(web, row):
    """The LOT of those of the ROW that are WITHOUT."""
    web = need_web(web)
    row = need_row(web, row)
    taking = taking_of(web, row)
    return tuple(sorted([guest for guest in row if taking[guest] is None]))


def pleased_of(web, row):
    """The LOT of those of the ROW that have the PLACE they want."""
    web = need_web(web)
    return _pleased(web, need_row(web, row))


def next_seat(web, row, guest):
    """The PLACE that the GUEST takes if it comes behind the ROW, None if it is WITHOUT then."""
    web = need_web(web)
    row = need_row(web, row)
    need_number(guest)
    need_guest(web, guest)
    if guest in row:
        raise CanNot()
    return seat_for(web[1][guest], taking_of(web, row))


def found_gone(web, row):
    """How many of the ROW have not the PLACE they want."""
    web = need_web(web)
    row = need_row(web, row)
    return len(row) - len(_pleased(web, row))


def taking_of(web, row):
    """The TAKING behind the ROW, of a WEB and a ROW that are sure to be such."""
    guests = web[1]
    taking = [None] * len(guests)
    for guest in row:
        taking[guest] = seat_for(guests[guest], taking)
    return tuple(taking)


def is_row_of(web, thing):
    """Whether thing is a ROW of what is sure to be a WEB."""
    if not is_numbers(thing) or len(set(thing)) != len(thing):
        return False
    return all([0 <= guest < len(web[1]) for guest in thing])


def _is_order_of(web, thing):
    """Whether thing is an ORDER of what is sure to be a WEB."""
    return is_row_of(web, thing) and len(thing) == len(web[1])


def seat_for(pair, taking):
    """The first PLACE of the pair that nobody has in the TAKING, None if both are had."""
    for place in pair:
        if place not in taking:
            return place
    return None


def _places_in(seats):
    """The set of the PLACES among the seats, which may be None, too."""
    return tuple(sorted([seat for seat in seats if seat is not None]))


def _pleased(web, row):
    """The LOT of those of the ROW that have the PLACE they want."""
    taking = taking_of(web, row)
    return tuple(sorted([guest for guest in row if taking[guest] == web[1][guest][0]]))
