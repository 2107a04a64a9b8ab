"""Takings: who has which place."""

from leftwithout.checks import as_tuples, is_number
from leftwithout.errors import Unfit
from leftwithout.webs import need_web


def is_taking(web, thing):
    """Whether thing is a TAKING of the WEB."""
    return _is_taking_of(need_web(web), thing)


def need_taking(web, taking):
    """The TAKING as a tuple; Unfit() if it is none of the WEB."""
    plain = as_tuples(taking, 1)
    if not _is_taking_of(web, plain):
        raise Unfit()
    return plain


def _is_taking_of(web, thing):
    """Whether thing is a TAKING of what is sure to be a WEB."""
    if not isinstance(thing, tuple) or len(thing) != len(web[1]):
        return False
    if not all([_can_have(pair, place) for pair, place in zip(web[1], thing)]):
        return False
    had = [place for place in thing if place is not None]
    return len(set(had)) == len(had)


def _can_have(pair, place):
    """Whether a GUEST with these ends can have this as its PLACE, or None."""
    return place is None or (is_number(place) and place in pair)
