"""How few and how many are without, and each number between."""

from leftwithout.checks import need_number
from leftwithout.errors import CanNot, TooMany
from leftwithout.parts import trees
from leftwithout.runs import is_order, without_of
from leftwithout.stars import are_apart, order_free, plain_stars
from leftwithout.together import order_with
from leftwithout.webs import need_web

MOST_SEARCHED = 16


def fewest(web):
    """How many are WITHOUT at the least."""
    web = need_web(web)
    return _fewest(web)


def most(web):
    """How many are WITHOUT at the most."""
    web = need_web(web)
    return _most(web, _greatest_choice(web))


def tree_parts(web):
    """The tuple of the PARTS of the WEB and all its GUESTS that are trees."""
    web = need_web(web)
    return trees(web, tuple(range(len(web[1]))))


def greatest_choice(web):
    """The least one of the CHOICES with the most PLACES."""
    return _greatest_choice(need_web(web))


def fewest_order(web):
    """An ORDER by which the fewest are WITHOUT."""
    # With nobody asked for, just those are WITHOUT who are too many in the
    # crowded PARTS.
    return order_with(web, ())


def can_be_so_many(web, number):
    """Whether some ORDER leaves just so many WITHOUT."""
    web = need_web(web)
    need_number(number)
    choice = _greatest_choice(web)
    return _fewest(web) <= number <= _most(web, choice)


def lot_of(web, number):
    """A LOT of so many that is the lot WITHOUT for some ORDER; CanNot() if there is none."""
    web = need_web(web)
    need_number(number)
    return without_of(web, _order_so_many(web, number))


def order_so_many(web, number):
    """An ORDER that leaves just so many WITHOUT; CanNot() if there is none."""
    web = need_web(web)
    need_number(number)
    return _order_so_many(web, number)


def is_order_so_many(web, number, thing):
    """Whether thing is an ORDER that leaves just so many WITHOUT."""
    web = need_web(web)
    need_number(number)
    return is_order(web, thing) and len(without_of(web, thing)) == number


def _fewest(web):
    """How many are WITHOUT at the least, of what is sure to be a WEB."""
    return len(web[1]) - web[0] + len(tree_parts(web))


def _most(web, choice):
    """How many are WITHOUT at the most, of a WEB with this greatest CHOICE."""
    return len(web[1]) - web[0] + len(choice)


def greatest_apart(stars):
    """The least one of the greatest sets of PLACES whose STARS are apart, of those with these STARS, told ascending.

    TooMany() if there are too many PLACES to choose from.
    """
    if len(stars) > MOST_SEARCHED:
        raise TooMany()
    return _greatest_of(stars, tuple(stars))


def _greatest_choice(web):
    """The least one of the CHOICES with the most PLACES."""
    return greatest_apart(plain_stars(web))


def _greatest_of(stars, places):
    """The least one of the sets of the most of these PLACES, with these STARS, that are apart."""
    if places == ():
        return ()
    first = places[0]
    rest = places[1:]
    apart = tuple([place for place in rest if are_apart(stars[first], stars[place])])
    best = (first,) + _greatest_of(stars, apart)
    # If all others are apart from the first one, it is of a greatest CHOICE.
    other = () if apart == rest else _greatest_of(stars, rest)
    return other if len(other) > len(best) else best


def _order_so_many(web, number):
    """An ORDER that leaves just so many WITHOUT; CanNot() if there is none."""
    last = order_free(web, _greatest_choice(web))
    row = fewest_order(web)
    # One GUEST after the other is put to where it stands in the last ORDER. By
    # each of these the number changes by one at most: so none is left out.
    for at in range(len(last) + 1):
        order = last[:at] + tuple([guest for guest in row if guest not in last[:at]])
        if len(without_of(web, order)) == number:
            return order
    raise CanNot()
