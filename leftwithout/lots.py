"""Lots that can be without, and by which orders."""

from leftwithout.checks import as_tuples, is_numbers, is_set_below
from leftwithout.errors import CanNot, Unfit
from leftwithout.parts import (
    kind_of, needless_in, need_web_and_lot, others_of, parts_of, steps_but, steps_from, trees_of,
)
from leftwithout.runs import is_order, without_of


def can_be_without(web, lot):
    """Whether the LOT can be WITHOUT."""
    web, lot = need_web_and_lot(web, lot)
    return _parts_against(web, lot) == []


def order_for(web, lot):
    """An ORDER by which just the LOT is WITHOUT; CanNot() if there is none."""
    web, lot = need_web_and_lot(web, lot)
    spares = _spares_of_trees(web, lot)
    return _order_leaving(web, lot, [own[0] for own in spares])


def is_order_for(web, lot, thing):
    """Whether thing is an ORDER by which just the LOT is WITHOUT."""
    web, lot = need_web_and_lot(web, lot)
    return is_order(web, thing) and without_of(web, thing) == lot


def why_not(web, lot):
    """A PART by which the LOT cannot be WITHOUT; CanNot() if it can."""
    web, lot = need_web_and_lot(web, lot)
    against = _parts_against(web, lot)
    if against == []:
        raise CanNot()
    return against[0]


def is_why_not(web, lot, thing):
    """Whether thing is a PART by which the LOT cannot be WITHOUT."""
    web, lot = need_web_and_lot(web, lot)
    return is_numbers(thing) and thing in _parts_against(web, lot)


def spare_places(web, lot):
    """The set of the PLACES that are left free by some ORDER by which just the LOT is WITHOUT."""
    web, lot = need_web_and_lot(web, lot)
    return tuple(sorted([place for own in _spares_of_trees(web, lot) for place in own]))


def how_many_free(web, lot):
    """How many PLACES each ORDER leaves free by which just the LOT is WITHOUT."""
    web, lot = need_web_and_lot(web, lot)
    return len(_spares_of_trees(web, lot))


def order_leaving(web, lot, places):
    """An ORDER by which just the LOT is WITHOUT and just the PLACES are left free."""
    web, lot = need_web_and_lot(web, lot)
    places = as_tuples(places, 1)
    if not is_set_below(places, web[0]):
        raise Unfit()
    spares = _spares_of_trees(web, lot)
    # As many as the trees, and one in each: so there is no other one.
    if len(places) != len(spares) or not all([_have_one(own, places) for own in spares]):
        raise CanNot()
    return _order_leaving(web, lot, places)


def spare_in(web, lot, part):
    """The list of the PLACES of the PART that are spare for the LOT."""
    not_spare = [pair[0] for pair in web[1]] + [end for guest in lot for end in web[1][guest]]
    return [place for place in part if place not in not_spare]


def _parts_against(web, lot):
    """The list of the PARTS of the others by which the LOT cannot be WITHOUT."""
    rest = others_of(web, lot)
    return [part for part in parts_of(web, rest) if _is_against(web, lot, part, kind_of(web, rest, part))]


def _is_against(web, lot, part, kind):
    """Whether the LOT cannot be WITHOUT because of a PART of this kind."""
    return kind == "crowded" or (kind == "tree" and spare_in(web, lot, part) == [])


def _spares_of_trees(web, lot):
    """The list of the lists of spare PLACES, one for each tree; CanNot() if the LOT cannot be WITHOUT."""
    if _parts_against(web, lot) != []:
        raise CanNot()
    return [spare_in(web, lot, tree) for tree in trees_of(web, others_of(web, lot))]


def _have_one(spares, places):
    """Whether one at least of the spare PLACES is among the places."""
    return any([place in places for place in spares])


def _order_leaving(web, lot, places):
    """The ORDER that leaves these PLACES free, a spare one of each tree, for a LOT that can be WITHOUT."""
    rest = others_of(web, lot)
    row = []
    for part in parts_of(web, rest):
        row = row + _row_in(web, rest, part, places)
    return tuple(row) + lot


def _row_in(web, rest, part, places):
    """The GUESTS of a full PART or a tree in a row by which all have a PLACE.

    Who comes from near to far finds near taken, or free but unwanted as the
    one PLACE of a tree that stays free, and takes far.
    """
    needless = needless_in(web, rest, part)
    if needless == ():
        start = [place for place in part if place in places][0]
        return [step[1] for step in steps_from(web, rest, start)]
    return [needless[0]] + [step[1] for step in steps_but(web, rest, needless[0])]
