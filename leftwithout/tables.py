"""Round tables: who can be without there, and for how many words."""

from leftwithout.checks import as_tuples, is_number, is_set_below, need_number
from leftwithout.errors import CanNot, Unfit
from leftwithout.lots import is_order_for, order_for
from leftwithout.passes import table_lots
from leftwithout.webs import is_word, need_table_word, table_of, unwanted


def nooks(word):
    """The set of the NOOKS."""
    return _nooks(need_table_word(word))


def can_at_table(word, lot):
    """Whether the LOT is WITHOUT for some ORDER."""
    word, lot = _need_word_and_lot(word, lot)
    return () not in _gaps(word, lot)


def gaps(word, lot):
    """The tuple of the gaps of the LOT's GUESTS; CanNot() for ()."""
    word, lot = _need_word_and_lot(word, lot)
    if lot == ():
        raise CanNot()
    return _gaps(word, lot)


def order_at_table(word, lot):
    """An ORDER with just the LOT WITHOUT; CanNot() if there is none."""
    word, lot = _need_word_and_lot(word, lot)
    return order_for(table_of(word), lot)


def is_order_at_table(word, lot, thing):
    """Whether thing is an ORDER with just the LOT WITHOUT."""
    word, lot = _need_word_and_lot(word, lot)
    return is_order_for(table_of(word), lot, thing)


def closed_gap(word, lot):
    """The least GUEST of the LOT whose gap is (); CanNot() if there is none."""
    word, lot = _need_word_and_lot(word, lot)
    closed = _closed(word, lot)
    if closed == []:
        raise CanNot()
    return closed[0]


def is_closed_gap(word, lot, thing):
    """Whether thing is the number of a GUEST of the LOT whose gap is ()."""
    word, lot = _need_word_and_lot(word, lot)
    return is_number(thing) and thing in _closed(word, lot)


def most_at_table(word):
    """How many are WITHOUT at the most."""
    word = need_table_word(word)
    return _most(word)


def lots_at_table(word):
    """The tuple that tells, for each number up to the most, how many LOTS of so many are WITHOUT for some ORDER."""
    word = need_table_word(word)
    return table_lots(word)[:_most(word) + 1]


def many_words(number, lot):
    """For how many WORDS of so many numbers the LOT is WITHOUT for some ORDER."""
    lot = _need_number_and_lot(number, lot)
    if lot == ():
        return 1 << number
    found = 1
    for count in _between(number, lot):
        found = found * _many_beside(count)
    return found


def word_for(number, lot):
    """A WORD of so many numbers for which the LOT is WITHOUT for some ORDER; CanNot() if there is none."""
    lot = _need_number_and_lot(number, lot)
    if lot != () and min(_between(number, lot)) < 2:
        raise CanNot()
    # The next one behind a GUEST of the LOT wants its left PLACE, whoever
    # comes behind that one its right PLACE: so between both is a NOOK.
    left = [(guest + far) % number for guest in lot for far in range(2)]
    return tuple([0 if guest in left else 1 for guest in range(number)])


def is_word_for(number, lot, thing):
    """Whether thing is a WORD of so many numbers for which the LOT is WITHOUT for some ORDER."""
    lot = _need_number_and_lot(number, lot)
    return is_word(thing) and len(thing) == number and can_at_table(thing, lot)


def fits(number):
    """The tuple that tells, for each size of LOTS, for how many pairs of a WORD and a LOT this is WITHOUT."""
    _need_two(number)
    found = [1 << number]
    # For each number of GUESTS in a row that begins with one of the LOT, how
    # many pairs there are, with as many of the LOT as there are turns.
    rows = [1] + [0] * number
    for count in range(1, number // 3 + 1):
        rows = [_one_more(rows, long) for long in range(number + 1)]
        # The row can begin at each GUEST of the TABLE; each LOT was counted
        # for each of its own.
        found.append(rows[number] * number // count)
    return tuple(found)


def _need_word_and_lot(word, lot):
    """The pair of the WORD and the LOT of its TABLE; Unfit() if one is none."""
    word = need_table_word(word)
    return (word, _need_lot(len(word), lot))


def _need_number_and_lot(number, lot):
    """The LOT of a TABLE of so many; Unfit() if one is none."""
    _need_two(number)
    return _need_lot(number, lot)


def _need_two(number):
    """Raise Unfit() if this is no number from 2."""
    need_number(number)
    if number < 2:
        raise Unfit()


def _need_lot(many, lot):
    """The LOT as a tuple; Unfit() if it is no set of numbers from 0 below so many."""
    plain = as_tuples(lot, 1)
    if not is_set_below(plain, many):
        raise Unfit()
    return plain


# What stands below is of what is sure to be such.


def _nooks(word):
    """The set of the NOOKS."""
    return unwanted(table_of(word))


def _between(many, lot):
    """The list that tells, for each GUEST of the LOT, how many are between it and the next one of the LOT."""
    return [(later - guest - 1) % many for guest, later in zip(lot, lot[1:] + lot[:1])]


def _gaps(word, lot):
    """The tuple of the gaps of the LOT's GUESTS."""
    many = len(word)
    free = _nooks(word)
    found = []
    for guest, count in zip(lot, _between(many, lot)):
        places = sorted([(guest + far) % many for far in range(2, count + 1)])
        found.append(tuple([place for place in places if place in free]))
    return tuple(found)


def _closed(word, lot):
    """The list of the GUESTS of the LOT whose gap is ()."""
    return [guest for guest, gap in zip(lot, _gaps(word, lot)) if gap == ()]


def _most(word):
    """How many NOOKS at the most can be picked that are three PLACES or more apart."""
    if len(word) == 2:
        return 0
    return max([_picked_from(len(word), _nooks(word), first) for first in _nooks(word)], default=0)


def _picked_from(many, free, first):
    """How many can be picked, each next one the nearest that can be, with this one as the first."""
    picked = 1
    last = 0
    for far in sorted([(place - first) % many for place in free]):
        if last + 3 <= far <= many - 3:
            picked += 1
            last = far
    return picked


def _many_beside(count):
    """How many WORDS there are of a GUEST of the LOT and so many behind it with a NOOK between these."""
    # Without one are those in which all who want their right PLACE come first.
    return 2 * ((1 << count) - count - 1)


def _one_more(rows, long):
    """How many pairs there are for a row of so many with one more of the LOT than these rows have."""
    return sum([rows[at] * _many_beside(long - at - 1) for at in range(long)])
