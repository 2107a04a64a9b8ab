"""Lots of guests, and the parts into which places fall by them."""

from leftwithout.checks import as_tuples, is_numbers, is_set_below, need_number
from leftwithout.errors import CanNot, Unfit
from leftwithout.webs import need_place, need_web


def is_lot(web, thing):
    """Whether thing is a LOT of the WEB."""
    return is_set_below(thing, len(need_web(web)[1]))


def need_web_and_lot(web, lot):
    """The pair of the WEB and the LOT, with tuples throughout; Unfit() if one is none."""
    web = need_web(web)
    plain = as_tuples(lot, 1)
    if not is_set_below(plain, len(web[1])):
        raise Unfit()
    return (web, plain)


def others(web, lot):
    """The LOT of all GUESTS that are not of the LOT."""
    web, lot = need_web_and_lot(web, lot)
    return others_of(web, lot)


def parts(web, lot):
    """The tuple of the PARTS of the WEB and the LOT."""
    web, lot = need_web_and_lot(web, lot)
    return parts_of(web, lot)


def part_of(web, lot, place):
    """The PART that has the PLACE."""
    web, lot = _need_all(web, lot, place)
    return _part_from(web, lot, place)


def guests_of_part(web, lot, place):
    """The LOT of the GUESTS of the PART that has the PLACE."""
    web, lot = _need_all(web, lot, place)
    return _guests_in(web, lot, _part_from(web, lot, place))


def kind_of_part(web, lot, place):
    """Whether the PART that has the PLACE is "full", a "tree" or "crowded"."""
    web, lot = _need_all(web, lot, place)
    return kind_of(web, lot, _part_from(web, lot, place))


def trees(web, lot):
    """The tuple of the PARTS that are trees."""
    web, lot = need_web_and_lot(web, lot)
    return trees_of(web, lot)


def round_in(web, lot, place):
    """A ROUND of GUESTS of the PART that has the PLACE; CanNot() if it is a tree."""
    web, lot = _need_all(web, lot, place)
    needless = needless_in(web, lot, _part_from(web, lot, place))
    if needless == ():
        raise CanNot()
    return _round_by(web, lot, needless[0])


def is_round(web, lot, thing):
    """Whether thing is a ROUND of the LOT."""
    web, lot = need_web_and_lot(web, lot)
    if not isinstance(thing, tuple) or len(thing) < 2:
        return False
    if not all([is_numbers(pair) and len(pair) == 2 for pair in thing]):
        return False
    guests = [guest for guest, _ in thing]
    places = [place for _, place in thing]
    if len(set(guests)) != len(guests) or len(set(places)) != len(places):
        return False
    if not all([guest in lot for guest in guests]):
        return False
    then = places[1:] + places[:1]
    return all([sorted(web[1][guest]) == sorted([place, after]) for (guest, place), after in zip(thing, then)])


def most_seated(web, lot):
    """How many GUESTS of the LOT at most can have unlike PLACES at which they end."""
    web, lot = need_web_and_lot(web, lot)
    return web[0] - len(trees_of(web, lot))


def can_all_sit(web, lot):
    """Whether all GUESTS of the LOT can have unlike PLACES at which they end."""
    web, lot = need_web_and_lot(web, lot)
    return all([kind_of(web, lot, part) != "crowded" for part in parts_of(web, lot)])


# What stands below is of a WEB and a LOT that are sure to be such.


def others_of(web, lot):
    """The LOT of all GUESTS that are not of the LOT."""
    return tuple([guest for guest in range(len(web[1])) if guest not in lot])


def parts_of(web, lot):
    """The tuple of the PARTS."""
    found = []
    left = list(range(web[0]))
    while left:
        part = _part_from(web, lot, left[0])
        found.append(part)
        left = [place for place in left if place not in part]
    return tuple(found)


def kind_of(web, lot, part):
    """Whether the PART is "full", a "tree" or "crowded"."""
    more = len(_guests_in(web, lot, part)) - len(part)
    if more < 0:
        return "tree"
    return "full" if more == 0 else "crowded"


def trees_of(web, lot):
    """The tuple of the PARTS that are trees."""
    return tuple([part for part in parts_of(web, lot) if kind_of(web, lot, part) == "tree"])


def steps_from(web, lot, place):
    """How one comes from the PLACE to all others of its PART, a GUEST and a PLACE by each step.

    Each step is a triple (near, guest, far): near is the PLACE itself or the
    far of an earlier step, no far comes twice, and guest ends at both.
    """
    seen = {place: True}
    ahead = [place]
    steps = []
    while ahead:
        near = ahead.pop()
        for guest in lot:
            far = _far_end(web[1][guest], near)
            if far is not None and far not in seen:
                seen[far] = True
                ahead.append(far)
                steps.append((near, guest, far))
    return steps


def needless_in(web, lot, part):
    """The LOT of those GUESTS of the PART without which, all at once, it holds together yet.

    Each of them goes round with some of the others.
    """
    needed = [step[1] for step in steps_from(web, lot, part[0])]
    return tuple([guest for guest in _guests_in(web, lot, part) if guest not in needed])


def steps_but(web, lot, first):
    """How one comes from the wanted PLACE of this GUEST, a needless one of its PART, to all others without it."""
    return steps_from(web, [guest for guest in lot if guest != first], web[1][first][0])


def _need_all(web, lot, place):
    """The pair of the WEB and the LOT; refuses what is none, no number, no PLACE."""
    web, lot = need_web_and_lot(web, lot)
    need_number(place)
    need_place(web, place)
    return (web, lot)


def _part_from(web, lot, place):
    """The PART that has the PLACE."""
    return tuple(sorted([place] + [step[2] for step in steps_from(web, lot, place)]))


def _guests_in(web, lot, part):
    """The LOT of the GUESTS of the PART."""
    # A GUEST of the LOT that wants a PLACE of a PART has both ends in it.
    return tuple([guest for guest in lot if web[1][guest][0] in part])


def _far_end(pair, near):
    """The PLACE of the pair that is not near, None if near is none of the two."""
    if near not in pair:
        return None
    return pair[0] if pair[1] == near else pair[1]


def _round_by(web, lot, last):
    """A ROUND that has this GUEST, a needless one of its PART, as its last."""
    start, goal = web[1][last]
    rest = [guest for guest in lot if guest != last]
    came = {far: (near, guest) for near, guest, far in steps_from(web, rest, start)}
    pairs = []
    place = goal
    while place != start:
        near, guest = came[place]
        pairs.append((guest, place))
        place = near
    return tuple(pairs + [(last, start)])
