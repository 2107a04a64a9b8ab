"""Who loses and who wins what if a guest stays away, or comes earlier or later."""

from leftwithout.checks import need_number
from leftwithout.errors import CanNot
from leftwithout.oneless import but_one, changed_without, need_web_order_guest
from leftwithout.runs import need_order, taking_of
from leftwithout.webs import need_guest, need_web


def moved_way(web, order, guest):
    """The MOVED WAY of the ORDER and the GUEST."""
    web, order = need_web_order_guest(web, order, guest)
    return changed_without(web, order, guest)


def places_left(web, order, guest):
    """The tuple of the PLACES that the GUEST and, one by one, those of its MOVED WAY have in the OUTCOME."""
    web, order = need_web_order_guest(web, order, guest)
    taking = taking_of(web, order)
    moving = [guest] + [own for own, _ in changed_without(web, order, guest)]
    return tuple([taking[own] for own in moving if taking[own] is not None])


def put_at(web, order, guest, number):
    """The ORDER of all others as they stand, with the GUEST at this place of it."""
    web, order = _need_all(web, order, guest, number)
    return put_in(order, guest, number)


def lost_and_won(web, order, guest, number):
    """The pair of the sets of the others who lose their PLACE, and who win one, with the GUEST put there."""
    web, order = _need_all(web, order, guest, number)
    before = _seated_but(web, order, guest)
    after = _seated_but(web, put_in(order, guest, number), guest)
    lost = [own for own in before if own not in after]
    won = [own for own in after if own not in before]
    return (tuple(lost), tuple(won))


def latest(web, order, guest):
    """The greatest number at which the GUEST, put there, has a PLACE."""
    web, order = need_web_order_guest(web, order, guest)
    numbers = range(len(order))
    return max([number for number in numbers if taking_of(web, put_in(order, guest, number))[guest] is not None])


def _need_all(web, order, guest, number):
    """The pair of the WEB and the ORDER; refuses what is none, no number, no GUEST, no place of the ORDER."""
    web = need_web(web)
    order = need_order(web, order)
    need_number(guest)
    need_number(number)
    need_guest(web, guest)
    if not 0 <= number < len(order):
        raise CanNot()
    return (web, order)


def put_in(order, guest, number):
    """The ORDER, or the ROW, with the GUEST put at this place of it."""
    rest = but_one(order, guest)
    return rest[:number] + (guest,) + rest[number:]


def _seated_but(web, order, guest):
    """The list, ascending, of the others who have a PLACE by the ORDER."""
    taking = taking_of(web, order)
    return [own for own, place in enumerate(taking) if own != guest and place is not None]
