"""Lines and tables of guests, however long, told by one pass over their words."""

from math import factorial

from leftwithout.errors import TooMany
from leftwithout.webs import line_of, need_table_word, need_word, table_of, unwanted

LONGEST_TABLE = 20

# What a GUEST has at the end: its left PLACE, its right one, or none.
LEFT = "left"
RIGHT = "right"
NONE = "none"

# Which one of two neighbours must come ahead of the other one, if any.
EARLIER = "earlier"
LATER = "later"
EITHER = "either"


def line_orders(word):
    """The tuple that tells by how many ORDERS of the LINE so many are WITHOUT, for each number up to that of GUESTS."""
    return tuple(_orders_in_row(need_word(word), False))


def table_orders(word):
    """The tuple that tells by how many ORDERS of the TABLE so many are WITHOUT; TooMany() if it is too long."""
    word = need_table_word(word)
    if len(word) > LONGEST_TABLE:
        raise TooMany()
    rows = [_orders_in_row(word[place:] + word[:place], True) for place in unwanted(table_of(word))]
    # As many PLACES are free as GUESTS are WITHOUT, so each ORDER is counted
    # in as many rows, each begun at one of these PLACES.
    found = [sum([row[gone] for row in rows]) // max(gone, 1) for gone in range(len(word) + 1)]
    return tuple([factorial(len(word)) - sum(found)] + found[1:])


def line_lots(word):
    """The tuple that tells how many LOTS of each size can be WITHOUT on the LINE."""
    line = line_of(need_word(word))
    free = unwanted(line)
    return tuple(_lots_in_row([place in free for place in range(line[0])]))


def table_lots(word):
    """The tuple that tells how many LOTS of each size can be WITHOUT on the TABLE."""
    word = need_table_word(word)
    many = len(word)
    free = unwanted(table_of(word))
    found = [0] * (many + 1)
    for guest in range(many):
        # With this GUEST of the LOT the others sit in a row, from the one
        # behind it to the one ahead of it; at both ends of the row it ends, too.
        inner = [(guest + far) % many in free for far in range(2, many)]
        for count, lots in enumerate(_lots_in_row([False] + inner + [False])):
            found[count + 1] += lots
    # Each LOT was counted for each of its GUESTS.
    return tuple([1] + [found[count] // count for count in range(1, many + 1)])


def _orders_in_row(word, cut):
    """The list that tells, for each number, by how many ORDERS of the row of GUESTS so many are WITHOUT.

    If it is cut from a TABLE both its ends are one PLACE, which must stay free.
    """
    stage = _first_stage(word, cut)
    for side, later_side in zip(word, word[1:]):
        stage = _next_stage(stage, side, later_side)
    found = [0] * (len(word) + 1)
    for (seat, gone), counts in stage.items():
        if (seat == RIGHT and not cut) or (seat == LEFT and word[-1] == 0):
            found[gone] += sum(counts)
    return found


# A stage is a dict that tells, for each pair of what the last GUEST has and
# how many are WITHOUT, the list of how many ORDERS of the GUESTS up to it have
# none, one, two .. of them ahead of it.


def _first_stage(word, cut):
    """The stage of the first GUEST alone."""
    stage = {}
    if not cut:
        stage[(LEFT, 0)] = [1]
    if word[0] == 1:
        stage[(RIGHT, 0)] = [1]
    return stage


def _next_stage(stage, side, later_side):
    """The stage with one GUEST more, side and later_side being what the last one and this one want."""
    found = {}
    for (seat, gone), counts in stage.items():
        for later_seat, ahead in _seats_behind(seat, side, later_side):
            key = (later_seat, gone + 1 if later_seat == NONE else gone)
            more = _spread(counts, ahead)
            found[key] = [one + other for one, other in zip(found.get(key, [0] * len(more)), more)]
    return found


def _seats_behind(seat, side, later_side):
    """What a GUEST can have beside one who has this seat, with which one of both must come ahead.

    Between a GUEST who has its left PLACE and one who has its right one a
    PLACE is free: each must want what it has, and none can be WITHOUT.
    """
    if seat == NONE:
        return [(LEFT, LATER)]
    if seat == RIGHT:
        return [(RIGHT, EARLIER if later_side == 0 else EITHER), (NONE, EARLIER)]
    behind = [(LEFT, LATER if side == 1 else EITHER)]
    if side == 0 and later_side == 1:
        behind.append((RIGHT, EITHER))
    return behind


def _spread(counts, ahead):
    """The counts of ORDERS with one GUEST more, by how many come ahead of it."""
    sums = [0]
    for count in counts:
        sums.append(sums[-1] + count)
    if ahead == EARLIER:
        return sums
    if ahead == LATER:
        return [sums[-1] - own for own in sums]
    return [sums[-1]] * len(sums)


def _lots_in_row(free):
    """The list that tells, for each number, how many LOTS of so many GUESTS of a row can be WITHOUT.

    free tells, for each PLACE of the row, whether nobody wants it. Between two
    GUESTS of the LOT, ahead of the first one and behind the last one must be
    such a PLACE at which none of the LOT ends.
    """
    # Each state tells whether the last GUEST is of the LOT, whether there is
    # such a PLACE behind the last one of the LOT, and how many the LOT has.
    states = {(False, False, 0): 1}
    for own in free[:-1]:
        found = {}
        for (last, has, count), many in states.items():
            stays = (False, has or (own and not last), count)
            found[stays] = found.get(stays, 0) + many
            if has:
                # This comes of one state alone: has is never beside last.
                found[(True, False, count + 1)] = many
        states = found
    lots = [0] * len(free)
    for (last, has, count), many in states.items():
        if has or (free[-1] and not last):
            lots[count] += many
    return lots
