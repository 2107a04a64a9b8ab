"""Whatever is wanted: who can be without by some wants, or by all."""

from leftwithout.checks import is_set_below
from leftwithout.errors import CanNot
from leftwithout.lots import can_be_without
from leftwithout.most import fewest, greatest_apart, most
from leftwithout.parts import (
    can_all_sit, need_web_and_lot, needless_in, others_of, parts_of, steps_but, steps_from, trees_of,
)
from leftwithout.stars import are_apart, plain_stars_among
from leftwithout.wants import is_wants, with_wants
from leftwithout.webs import need_web


def can_some_want(web, lot):
    """Whether the LOT can be WITHOUT by some WANTS."""
    web, lot = need_web_and_lot(web, lot)
    return _can_some_want(web, lot)


def can_all_want(web, lot):
    """Whether the LOT can be WITHOUT by all WANTS."""
    web, lot = need_web_and_lot(web, lot)
    return _can_all_want(web, lot)


def wants_for(web, lot):
    """WANTS by which the LOT can be WITHOUT; CanNot() if there are none."""
    web, lot = need_web_and_lot(web, lot)
    if not _can_some_want(web, lot):
        raise CanNot()
    return _wants_away_from(web, [_not_met(web, lot, tree)[0] for tree in trees_of(web, others_of(web, lot))])


def wants_against(web, lot):
    """WANTS by which the LOT cannot be WITHOUT; CanNot() if there are none."""
    web, lot = need_web_and_lot(web, lot)
    if _can_all_want(web, lot):
        raise CanNot()
    rest = others_of(web, lot)
    steps = []
    for tree in trees_of(web, rest):
        met = _met(web, lot, tree)
        if met != []:
            # All PLACES of the tree come to be wanted but this one, at which
            # the LOT ends.
            steps.extend(steps_from(web, rest, met[0]))
    return _wants_along(web, steps)


def is_wants_for(web, lot, thing):
    """Whether thing is WANTS by which the LOT can be WITHOUT."""
    web, lot = need_web_and_lot(web, lot)
    return is_wants(web, thing) and can_be_without(with_wants(web, thing), lot)


def is_wants_against(web, lot, thing):
    """Whether thing is WANTS by which the LOT cannot be WITHOUT."""
    web, lot = need_web_and_lot(web, lot)
    return is_wants(web, thing) and not can_be_without(with_wants(web, thing), lot)


def most_some_want(web):
    """The most WITHOUT of any ORDER by any WANTS."""
    web = need_web(web)
    return len(web[1]) - web[0] + len(greatest_apart(_all_plain_stars(web)))


def stars_apart(web):
    """A greatest set of PLACES apart."""
    return greatest_apart(_all_plain_stars(need_web(web)))


def is_stars_apart(web, thing):
    """Whether thing is a greatest set of PLACES apart."""
    web = need_web(web)
    stars = _all_plain_stars(web)
    many = len(greatest_apart(stars))
    if not is_set_below(thing, web[0]) or len(thing) != many:
        return False
    if not all([place in stars for place in thing]):
        return False
    return all([are_apart(stars[one], stars[other]) for one in thing for other in thing if one < other])


def wants_for_most(web):
    """WANTS by which some ORDER leaves the most WITHOUT."""
    web = need_web(web)
    return _wants_away_from(web, greatest_apart(_all_plain_stars(web)))


def is_steady(web):
    """Whether all ORDERS leave equally many WITHOUT."""
    web = need_web(web)
    return fewest(web) == most(web)


def steady_wants(web):
    """WANTS by which the WEB is steady."""
    web = need_web(web)
    everybody = tuple(range(len(web[1])))
    steps = []
    for part in parts_of(web, everybody):
        needless = needless_in(web, everybody, part)
        # Each next PLACE is wanted by who leads to it, the first one of a PART
        # with a round, too, by one who is not needed: so just one PLACE of each
        # tree, and none of another PART, is unwanted.
        if needless == ():
            steps.extend(steps_from(web, everybody, part[0]))
        else:
            steps.extend(steps_but(web, everybody, needless[0]))
    return _wants_along(web, steps)


# What stands below is of a WEB and a LOT that are sure to be such.


def _met(web, lot, part):
    """The list of the PLACES of the PART at which some of the LOT end."""
    ends = [end for guest in lot for end in web[1][guest]]
    return [place for place in part if place in ends]


def _not_met(web, lot, part):
    """The list of the PLACES of the PART at which none of the LOT ends."""
    met = _met(web, lot, part)
    return [place for place in part if place not in met]


def _can_some_want(web, lot):
    """Whether each PART of the others is full, or a tree with a PLACE at which none of the LOT ends."""
    rest = others_of(web, lot)
    return can_all_sit(web, rest) and all([_not_met(web, lot, tree) != [] for tree in trees_of(web, rest)])


def _can_all_want(web, lot):
    """Whether each PART of the others is full, or a tree at which none of the LOT ends."""
    rest = others_of(web, lot)
    return can_all_sit(web, rest) and all([_met(web, lot, tree) == [] for tree in trees_of(web, rest)])


def _wants_away_from(web, places):
    """WANTS by which nobody wants one of these PLACES, no two of which are the ends of one GUEST."""
    return tuple([1 if pair[0] in places else 0 for pair in web[1]])


def _wants_along(web, steps):
    """WANTS by which the GUEST of each step wants the PLACE to which it leads, all others what they want."""
    found = [0] * len(web[1])
    for _, guest, far in steps:
        found[guest] = web[1][guest].index(far)
    return tuple(found)


def _all_plain_stars(web):
    """The dict that tells the STAR of each PLACE with a plain one, wanted or not."""
    return plain_stars_among(web, tuple(range(web[0])))
