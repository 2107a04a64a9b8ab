"""How many orders have an outcome, and who can come where in them."""

from leftwithout.checks import need_number
from leftwithout.errors import CanNot, TooMany
from leftwithout.takings import ahead_in, need_outcome
from leftwithout.ways import Ways, all_ahead, all_behind, but, ready, sizes_among
from leftwithout.webs import need_guest, need_web

MOST_COUNTED = 14


def sizes_of(web, outcome):
    """The tuple of the SIZES of all GUESTS; CanNot() if somebody has None."""
    web = need_web(web)
    outcome = need_outcome(web, outcome)
    if None in outcome:
        raise CanNot()
    everybody = all_guests(web)
    sizes = sizes_among(ahead_in(web, outcome), everybody)
    return tuple([sizes[guest] for guest in everybody])


def how_many_orders(web, outcome):
    """How many ORDERS have the OUTCOME."""
    web = need_web(web)
    outcome = need_outcome(web, outcome)
    need_countable(web, outcome)
    everybody = all_guests(web)
    return ways_of(web, outcome, everybody).many(everybody)


def must_come_behind(web, outcome, guest):
    """The set of the GUESTS that come behind this one in each ORDER of the OUTCOME."""
    web, outcome = _need_all(web, outcome, guest)
    return tuple(all_behind(ahead_in(web, outcome), guest))


def fewest_ahead(web, outcome, guest):
    """The least number of GUESTS ahead of this one in an ORDER of the OUTCOME."""
    web, outcome = _need_all(web, outcome, guest)
    return len(all_ahead(ahead_in(web, outcome), guest))


def most_ahead(web, outcome, guest):
    """The greatest number of GUESTS ahead of this one in an ORDER of the OUTCOME."""
    web, outcome = _need_all(web, outcome, guest)
    return len(web[1]) - 1 - len(all_behind(ahead_in(web, outcome), guest))


def can_come_first(web, outcome):
    """The set of the GUESTS with which some ORDERS of the OUTCOME begin."""
    web = need_web(web)
    outcome = need_outcome(web, outcome)
    return _can_be_first(web, outcome)


def can_come_last(web, outcome):
    """The set of the GUESTS with which some ORDERS of the OUTCOME end."""
    web = need_web(web)
    outcome = need_outcome(web, outcome)
    return _can_be_last(web, outcome)


def how_many_first(web, outcome, guest):
    """How many ORDERS of the OUTCOME begin with the GUEST."""
    web, outcome = _need_all(web, outcome, guest)
    need_countable(web, outcome)
    if guest not in _can_be_first(web, outcome):
        return 0
    everybody = all_guests(web)
    return ways_of(web, outcome, everybody).many(but(everybody, guest))


def how_many_last(web, outcome, guest):
    """How many ORDERS of the OUTCOME end with the GUEST."""
    web, outcome = _need_all(web, outcome, guest)
    need_countable(web, outcome)
    if guest not in _can_be_last(web, outcome):
        return 0
    rest = but(all_guests(web), guest)
    return ways_of(web, outcome, rest).many(rest)


def how_many_ahead(web, outcome, guest, goal):
    """In how many ORDERS of the OUTCOME the GUEST comes ahead of the goal."""
    web = need_web(web)
    outcome = need_outcome(web, outcome)
    need_number(guest)
    need_number(goal)
    need_guest(web, guest)
    need_guest(web, goal)
    if len(web[1]) > MOST_COUNTED:
        raise TooMany()
    # As if there were one more ARROW, from the GUEST to the goal.
    ahead = list(ahead_in(web, outcome))
    ahead[goal] = ahead[goal] + (guest,)
    everybody = all_guests(web)
    return Ways(ahead, everybody, False).many(everybody)


# What stands below is of a WEB and an OUTCOME that are sure to be such.


def all_guests(web):
    """The LOT of all GUESTS."""
    return tuple(range(len(web[1])))


def need_countable(web, outcome):
    """Raise TooMany() if the ORDERS of the OUTCOME are not to be counted."""
    if None in outcome and len(web[1]) > MOST_COUNTED:
        raise TooMany()


def ways_of(web, outcome, left):
    """The Ways of these GUESTS, with whom all are that must come ahead of them."""
    return Ways(ahead_in(web, outcome), left, None not in outcome)


def _need_all(web, outcome, guest):
    """The pair of the WEB and the OUTCOME; refuses what is none, no number, no GUEST."""
    web = need_web(web)
    outcome = need_outcome(web, outcome)
    need_number(guest)
    need_guest(web, guest)
    return (web, outcome)


def _can_be_first(web, outcome):
    """The set of the GUESTS to whom no ARROW goes."""
    return tuple(ready(ahead_in(web, outcome), all_guests(web)))


def _can_be_last(web, outcome):
    """The set of the GUESTS from whom no ARROW goes."""
    firsts = [first for own in ahead_in(web, outcome) for first in own]
    return tuple([guest for guest in all_guests(web) if guest not in firsts])
