"""The orders of an outcome by number, and from one of them to another."""

from leftwithout.checks import need_number
from leftwithout.errors import CanNot, TooMany, Unfit
from leftwithout.orders import all_guests, need_countable, ways_of
from leftwithout.rings import step_towards
from leftwithout.runs import need_order, taking_of
from leftwithout.takings import ahead_in, need_outcome
from leftwithout.ways import but, greatest_row, least_row, ready
from leftwithout.webs import need_web

MOST_LISTED = 2000


def order_at(web, outcome, number):
    """The ORDER of the OUTCOME with this number; CanNot() if there are no more than that."""
    web = need_web(web)
    outcome = need_outcome(web, outcome)
    need_number(number)
    if number < 0:
        raise Unfit()
    need_countable(web, outcome)
    left = all_guests(web)
    ways = ways_of(web, outcome, left)
    if number >= ways.many(left):
        raise CanNot()
    row = []
    while left:
        guest, number = _next_by_number(ways, left, number)
        row.append(guest)
        left = but(left, guest)
    return tuple(row)


def order_number(web, outcome, order):
    """The number of the ORDER; CanNot() if it leads to another OUTCOME."""
    web, outcome, order = _need_all(web, outcome, order)
    need_countable(web, outcome)
    _need_led(web, outcome, order)
    left = all_guests(web)
    ways = ways_of(web, outcome, left)
    number = 0
    for guest in order:
        lesser = [own for own in ready(ways.ahead, left) if own < guest]
        number += sum([ways.many(but(left, own)) for own in lesser])
        left = but(left, guest)
    return number


def next_order(web, outcome, order):
    """The next greater ORDER of the OUTCOME; CanNot() if there is none."""
    web, outcome, order = _need_all(web, outcome, order)
    _need_led(web, outcome, order)
    found = _next_along(ahead_in(web, outcome), order)
    if found is None:
        raise CanNot()
    return found


def order_ahead(web, outcome, order):
    """The next lesser ORDER of the OUTCOME; CanNot() if there is none."""
    web, outcome, order = _need_all(web, outcome, order)
    _need_led(web, outcome, order)
    ahead = ahead_in(web, outcome)
    for at in reversed(range(len(order))):
        left = tuple(sorted(order[at:]))
        lesser = [guest for guest in ready(ahead, left) if guest < order[at]]
        if lesser:
            guest = lesser[-1]
            return order[:at] + (guest,) + greatest_row(ahead, but(left, guest))
    raise CanNot()


def least_order(web, outcome):
    """The least ORDER of the OUTCOME."""
    web = need_web(web)
    return least_row(ahead_in(web, need_outcome(web, outcome)), all_guests(web))


def greatest_order(web, outcome):
    """The greatest ORDER of the OUTCOME."""
    web = need_web(web)
    return greatest_row(ahead_in(web, need_outcome(web, outcome)), all_guests(web))


def all_orders(web, outcome):
    """The list of all ORDERS of the OUTCOME; TooMany() if there are more than 2,000."""
    web = need_web(web)
    outcome = need_outcome(web, outcome)
    need_countable(web, outcome)
    everybody = all_guests(web)
    if ways_of(web, outcome, everybody).many(everybody) > MOST_LISTED:
        raise TooMany()
    ahead = ahead_in(web, outcome)
    found = []
    order = least_row(ahead, everybody)
    while order is not None:
        found.append(order)
        order = _next_along(ahead, order)
    return found


def step_to(web, outcome, order, goal):
    """The ORDER behind the first exchange of neighbours of a row of the fewest to the goal."""
    web, outcome, order = _need_all(web, outcome, order)
    goal = need_order(web, goal)
    _need_led(web, outcome, order)
    _need_led(web, outcome, goal)
    if order == goal:
        raise CanNot()
    # Who comes one way round here and the other way round there is not along
    # ARROWS, so the exchange leads to an ORDER of the same OUTCOME.
    return step_towards(order, goal)


def _need_all(web, outcome, order):
    """The triple of the WEB, the OUTCOME and the ORDER; Unfit() if one is none."""
    web = need_web(web)
    outcome = need_outcome(web, outcome)
    return (web, outcome, need_order(web, order))


def _need_led(web, outcome, order):
    """Raise CanNot() if the ORDER leads to another OUTCOME."""
    if taking_of(web, order) != outcome:
        raise CanNot()


def _next_by_number(ways, left, number):
    """The GUEST with which the row of left with this number begins, and the number of the rest."""
    can = ready(ways.ahead, left)
    at = 0
    while number >= ways.many(but(left, can[at])):
        number -= ways.many(but(left, can[at]))
        at += 1
    return (can[at], number)


def _next_along(ahead, order):
    """The next greater ORDER along ARROWS, None if there is none."""
    for at in reversed(range(len(order))):
        left = tuple(sorted(order[at:]))
        greater = [guest for guest in ready(ahead, left) if guest > order[at]]
        if greater:
            return order[:at] + (greater[0],) + least_row(ahead, but(left, greater[0]))
    return None
