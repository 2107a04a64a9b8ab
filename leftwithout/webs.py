"""Webs of places and guests; lines and tables."""

from leftwithout.checks import as_tuples, is_number, is_numbers, need_number
from leftwithout.errors import CanNot, NoGuest, NoPlace, Unfit


def is_web(thing):
    """Whether thing is a WEB."""
    if not isinstance(thing, tuple) or len(thing) != 2:
        return False
    many, guests = thing
    if not is_number(many) or many < 1 or not isinstance(guests, tuple):
        return False
    return all([is_guest_among(many, pair) for pair in guests])


def is_word(thing):
    """Whether thing is a WORD."""
    return is_numbers(thing) and thing != () and all([side in (0, 1) for side in thing])


def is_guest_among(many, pair):
    """Whether pair is a GUEST of a WEB of so many PLACES."""
    if not is_numbers(pair) or len(pair) != 2:
        return False
    return 0 <= min(pair) < max(pair) < many


def need_web(web):
    """The WEB with tuples throughout; Unfit() if it is none."""
    plain = as_tuples(web, 3)
    if not is_web(plain):
        raise Unfit()
    return plain


def need_word(word):
    """The WORD as a tuple; Unfit() if it is none."""
    plain = as_tuples(word, 1)
    if not is_word(plain):
        raise Unfit()
    return plain


def need_table_word(word):
    """The WORD of two or more as a tuple; Unfit() if it is none."""
    plain = need_word(word)
    if len(plain) < 2:
        raise Unfit()
    return plain


def need_place(web, place):
    """Raise NoPlace(place) if this number is no PLACE of the WEB."""
    if not 0 <= place < web[0]:
        raise NoPlace(place)


def need_guest(web, guest):
    """Raise NoGuest(guest) if this number is that of no GUEST of the WEB."""
    if not 0 <= guest < len(web[1]):
        raise NoGuest(guest)


def sizes(web):
    """The pair of how many PLACES and how many GUESTS there are."""
    many, guests = need_web(web)
    return (many, len(guests))


def wanted(web, guest):
    """The PLACE that the GUEST wants."""
    return _pair_of(web, guest)[0]


def other_end(web, guest):
    """The other PLACE of the GUEST."""
    return _pair_of(web, guest)[1]


def ends(web, guest):
    """The set of both PLACES of the GUEST."""
    return tuple(sorted(_pair_of(web, guest)))


def guests_at(web, place):
    """The set of the GUESTS that end at the PLACE."""
    guests = _guests_asked(web, place)
    return tuple([number for number, pair in enumerate(guests) if place in pair])


def wanting(web, place):
    """The set of the GUESTS that want the PLACE."""
    guests = _guests_asked(web, place)
    return tuple([number for number, pair in enumerate(guests) if pair[0] == place])


def unwanted(web):
    """The set of the PLACES that nobody wants."""
    many, guests = need_web(web)
    wishes = [pair[0] for pair in guests]
    return tuple([place for place in range(many) if place not in wishes])


def beside(web, place):
    """The set of the other PLACES at which GUESTS of the PLACE end."""
    guests = _guests_asked(web, place)
    return tuple(sorted({end for pair in guests if place in pair for end in pair if end != place}))


def between(web, place, other):
    """The set of the GUESTS that end at both PLACES; () if both are one."""
    web = need_web(web)
    need_number(place)
    need_number(other)
    need_place(web, place)
    need_place(web, other)
    if place == other:
        return ()
    return tuple([number for number, pair in enumerate(web[1]) if place in pair and other in pair])


def line_of(word):
    """The LINE of the WORD."""
    word = need_word(word)
    return (len(word) + 1, tuple([_guest_of(side, k, k + 1) for k, side in enumerate(word)]))


def table_of(word):
    """The TABLE of the WORD; CanNot() for a WORD of less than two."""
    word = need_word(word)
    many = len(word)
    if many < 2:
        raise CanNot()
    return (many, tuple([_guest_of(side, k, (k + 1) % many) for k, side in enumerate(word)]))


def word_of(web):
    """The pair of "line" or "table" and the WORD of the WEB; CanNot() if there is none."""
    web = need_web(web)
    # In a LINE and in a TABLE GUEST k has PLACE k as its first one, so no
    # other WORD than this one can lead to the WEB.
    word = tuple([0 if pair[0] == k else 1 for k, pair in enumerate(web[1])])
    if word != () and line_of(word) == web:
        return ("line", word)
    if len(word) > 1 and table_of(word) == web:
        return ("table", word)
    raise CanNot()


def _pair_of(web, guest):
    """The pair of the GUEST; refuses what is no WEB, no number, no GUEST."""
    web = need_web(web)
    need_number(guest)
    need_guest(web, guest)
    return web[1][guest]


def _guests_asked(web, place):
    """All GUESTS of the WEB; refuses what is no WEB, no number, no PLACE."""
    web = need_web(web)
    need_number(place)
    need_place(web, place)
    return web[1]


def _guest_of(side, first, second):
    """The GUEST between two PLACES that wants the first one by 0, the second one by 1."""
    return (first, second) if side == 0 else (second, first)
