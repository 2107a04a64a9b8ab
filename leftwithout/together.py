"""Guests that can be together without."""

from leftwithout.checks import is_numbers, need_number
from leftwithout.errors import CanNot
from leftwithout.lots import order_for, spare_in
from leftwithout.parts import need_web_and_lot, needless_in, others_of, parts_of, trees_of
from leftwithout.runs import is_order, without_of
from leftwithout.webs import need_guest, need_web


def can_together(web, lot):
    """Whether the GUESTS of the LOT can be together WITHOUT."""
    web, lot = need_web_and_lot(web, lot)
    return _barring(web, lot) == []


def never_without(web):
    """The LOT of the GUESTS that are WITHOUT by no ORDER."""
    web = need_web(web)
    return tuple([guest for guest in range(len(web[1])) if _barring(web, (guest,)) != []])


def rivals(web, guest):
    """The LOT of the others that can be WITHOUT, as the GUEST can, but never together with it."""
    web = need_web(web)
    need_number(guest)
    need_guest(web, guest)
    if _barring(web, (guest,)) != []:
        return ()
    return tuple([own for own in others_of(web, (guest,)) if _are_rivals(web, guest, own)])


def lot_with(web, lot):
    """A LOT that has all GUESTS of the LOT and can be WITHOUT; CanNot() if there is none."""
    web, lot = need_web_and_lot(web, lot)
    return _lot_with(web, lot)


def order_with(web, lot):
    """An ORDER by which all of the LOT are WITHOUT; CanNot() if there is none."""
    web, lot = need_web_and_lot(web, lot)
    return order_for(web, _lot_with(web, lot))


def is_order_with(web, lot, thing):
    """Whether thing is an ORDER by which all of the LOT are WITHOUT."""
    web, lot = need_web_and_lot(web, lot)
    if not is_order(web, thing):
        return False
    gone = without_of(web, thing)
    return all([guest in gone for guest in lot])


def why_never(web, lot):
    """A PART that bars the LOT; CanNot() if none does."""
    web, lot = need_web_and_lot(web, lot)
    barring = _barring(web, lot)
    if barring == []:
        raise CanNot()
    return barring[0]


def is_why_never(web, lot, thing):
    """Whether thing is a PART that bars the LOT."""
    web, lot = need_web_and_lot(web, lot)
    return is_numbers(thing) and thing in _barring(web, lot)


def _barring(web, lot):
    """The list of the PARTS that bar the LOT."""
    # Nobody asks whether some GUEST of the LOT ends in the tree: the GUESTS of
    # a tree are too few to want all its PLACES, so it has a spare one if not.
    return [tree for tree in trees_of(web, others_of(web, lot)) if spare_in(web, lot, tree) == []]


def _are_rivals(web, guest, other):
    """Whether the other can be WITHOUT, but not together with the GUEST."""
    if _barring(web, (other,)) != []:
        return False
    return _barring(web, tuple(sorted([guest, other]))) != []


def _lot_with(web, lot):
    """The LOT and whoever is too many in the crowded PARTS; CanNot() if a PART bars the LOT."""
    if _barring(web, lot) != []:
        raise CanNot()
    rest = others_of(web, lot)
    more = [guest for part in parts_of(web, rest) for guest in needless_in(web, rest, part)[1:]]
    return tuple(sorted(list(lot) + more))
