"""What comes of it if a guest stays away."""

from leftwithout.checks import need_number
from leftwithout.errors import CanNot
from leftwithout.runs import moments, need_order, taking_of
from leftwithout.webs import need_guest, need_web


def less(web, order, guest):
    """The list of the pairs of MOMENTS, with the GUEST and without it."""
    web, order = need_web_order_guest(web, order, guest)
    without = moments(web, but_one(order, guest))
    at = order.index(guest)
    # One more than come without it: behind the GUEST itself nothing is new.
    return list(zip(moments(web, order), without[:at + 1] + without[at:]))


def spare(web, order, guest):
    """The PLACE that is taken at the end with the GUEST alone; None if there is none."""
    web, order = need_web_order_guest(web, order, guest)
    without = taking_of(web, but_one(order, guest))
    return _one_of([place for place in taking_of(web, order) if place is not None and place not in without])


def helped(web, order, guest):
    """The other GUEST who has a PLACE only without this one; None if there is none."""
    web, order = need_web_order_guest(web, order, guest)
    return _helped_by(web, order, guest)


def helpers(web, order, guest):
    """The set of the others by each of whom, staying away, the GUEST is helped; CanNot() if it has a PLACE."""
    web, order = need_web_order_guest(web, order, guest)
    if taking_of(web, order)[guest] is not None:
        raise CanNot()
    return tuple([own for own in sorted(order) if _helped_by(web, order, own) == guest])


def harmless(web, order):
    """The set of the GUESTS without whom all others have what they have with them."""
    web = need_web(web)
    order = need_order(web, order)
    return tuple([guest for guest in sorted(order) if changed_without(web, order, guest) == ()])


def need_web_order_guest(web, order, guest):
    """The pair of the WEB and the ORDER; refuses what is none, no number, no GUEST."""
    web = need_web(web)
    order = need_order(web, order)
    need_number(guest)
    need_guest(web, guest)
    return (web, order)


# What stands below is of a WEB, an ORDER and a GUEST that are sure to be such.


def but_one(order, guest):
    """The ROW of all others, in the same order."""
    return tuple([own for own in order if own != guest])


def changed_without(web, order, guest):
    """The pairs (other, place), in order, of those who have something else, place, if the GUEST stays away."""
    rest = but_one(order, guest)
    taking = taking_of(web, order)
    without = taking_of(web, rest)
    return tuple([(own, without[own]) for own in rest if without[own] != taking[own]])


def _helped_by(web, order, guest):
    """The other GUEST who has a PLACE only without this one, None if there is none."""
    taking = taking_of(web, order)
    return _one_of([own for own, _ in changed_without(web, order, guest) if taking[own] is None])


def _one_of(found):
    """What was found, of which there is one at most; None if there is none."""
    return found[0] if found else None
