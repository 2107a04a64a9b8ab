"""Rings, why a taking is no outcome, and how one outcome is led to from another."""

from leftwithout.checks import as_tuples, is_number, is_numbers
from leftwithout.errors import CanNot, Unfit
from leftwithout.runs import is_order, need_order, taking_of
from leftwithout.takings import ahead_in, arrows, lacking_in, need_outcome, need_taking, order_of
from leftwithout.webs import need_web


def ring(web, taking):
    """A RING of the TAKING; CanNot() if there is none."""
    web = need_web(web)
    return _some_ring(web, need_taking(web, taking))


def is_ring(web, taking, thing):
    """Whether thing is a RING of the TAKING."""
    web = need_web(web)
    return _is_ring_of(web, need_taking(web, taking), thing)


def rings(web, taking):
    """The list of all RINGS of the TAKING, each told from its least GUEST on."""
    web = need_web(web)
    return _rings_of(web, need_taking(web, taking))


def why_no_outcome(web, taking):
    """A CASE by which the TAKING is no OUTCOME; CanNot() if it is one."""
    web = need_web(web)
    taking = need_taking(web, taking)
    lacking = lacking_in(web, taking)
    if lacking != ():
        return ("lacking", lacking[0])
    return ("ring", _some_ring(web, taking))


def is_why_no_outcome(web, taking, thing):
    """Whether thing is a CASE by which the TAKING is no OUTCOME."""
    web = need_web(web)
    taking = need_taking(web, taking)
    if not isinstance(thing, tuple) or len(thing) != 2:
        return False
    kind, told = thing
    if kind == "lacking":
        return is_number(told) and told in lacking_in(web, taking)
    return kind == "ring" and _is_ring_of(web, taking, told)


def exchanges(web, order, other):
    """How many pairs of GUESTS come the other way round in the other ORDER."""
    web = need_web(web)
    order = need_order(web, order)
    other = need_order(web, other)
    places = [other.index(guest) for guest in order]
    return sum([len([late for late in places[at:] if late < place]) for at, place in enumerate(places)])


def led_to(web, outcome, goal):
    """A WALK from one OUTCOME to the other."""
    web = need_web(web)
    outcome = need_outcome(web, outcome)
    goal = need_outcome(web, goal)
    order = order_of(web, outcome)
    last = order_of(web, goal)
    walk = [order]
    while order != last:
        order = step_towards(order, last)
        walk.append(order)
    return tuple(walk)


def is_led_to(web, outcome, goal, thing):
    """Whether thing is a WALK from one OUTCOME to the other."""
    web = need_web(web)
    outcome = need_outcome(web, outcome)
    goal = need_outcome(web, goal)
    if not isinstance(thing, tuple) or thing == ():
        return False
    if not all([is_order(web, own) for own in thing]):
        return False
    if not all([_is_step(order, later) for order, later in zip(thing, thing[1:])]):
        return False
    return taking_of(web, thing[0]) == outcome and taking_of(web, thing[-1]) == goal


def turned_ring(web, taking, ring):
    """The TAKING in which each GUEST of the RING has its wanted PLACE."""
    web = need_web(web)
    taking = need_taking(web, taking)
    ring = as_tuples(ring, 1)
    if not _is_ring_of(web, taking, ring):
        raise Unfit()
    return tuple([web[1][guest][0] if guest in ring else place for guest, place in enumerate(taking)])


def step_towards(order, goal):
    """The ORDER behind the first exchange of neighbours who come the other way round in the goal.

    Each such exchange is one of the fewest that lead to the goal, which must
    be another ORDER.
    """
    places = [goal.index(guest) for guest in order]
    at = [k for k in range(len(order) - 1) if places[k] > places[k + 1]][0]
    return order[:at] + (order[at + 1], order[at]) + order[at + 2:]


def _some_ring(web, taking):
    """The first one of the RINGS; CanNot() if there is none."""
    found = _rings_of(web, taking)
    if found == []:
        raise CanNot()
    return found[0]


def _rings_of(web, taking):
    """The list of all RINGS, each told from its least GUEST on."""
    ahead = ahead_in(web, taking)
    found = [_ring_from(ahead, guest) for guest in range(len(ahead))]
    return [own for own in found if own != () and own[0] == min(own)]


def _ring_from(ahead, guest):
    """The RING told from this GUEST on, () if it is of none."""
    # Who has None, with two GUESTS ahead, is of no RING: nobody is behind it.
    way = [guest]
    while len(ahead[way[-1]]) == 1:
        first = ahead[way[-1]][0]
        if first == guest:
            return tuple([guest] + way[::-1])
        if first in way:
            return ()
        way.append(first)
    return ()


def _is_ring_of(web, taking, thing):
    """Whether thing is a RING of the TAKING."""
    if not is_numbers(thing) or len(thing) < 3 or thing[0] != thing[-1]:
        return False
    if len(set(thing)) != len(thing) - 1:
        return False
    pairs = arrows(web, taking)
    return all([pair in pairs for pair in zip(thing, thing[1:])])


def _is_step(order, later):
    """Whether the ORDERS are alike but for two neighbours exchanged."""
    unlike = [at for at in range(len(order)) if order[at] != later[at]]
    return len(unlike) == 2 and unlike[1] == unlike[0] + 1
