"""Places that stay free together: stars and choices."""

from leftwithout.checks import as_tuples, is_numbers, is_set_below, need_number
from leftwithout.errors import CanNot, TooMany, Unfit
from leftwithout.parts import others_of
from leftwithout.runs import free_places, is_order
from leftwithout.webs import guests_at, need_place, need_web, unwanted

MOST_LISTED = 2000


def star(web, place):
    """The STAR of the PLACE."""
    web = _need_web_place(web, place)
    return star_of(web, place)


def is_plain(web, place):
    """Whether the STAR of the PLACE is plain."""
    web = _need_web_place(web, place)
    return _is_plain_at(web, place)


def is_choice(web, thing):
    """Whether thing is a CHOICE of the WEB."""
    web = need_web(web)
    return is_set_below(thing, web[0]) and _reasons(web, thing) == []


def all_choices(web):
    """The list of all CHOICES; TooMany() if they are more than 2,000."""
    web = need_web(web)
    stars = plain_stars(web)
    found = []
    ahead = [()]
    while ahead:
        choice = ahead.pop()
        found.append(choice)
        if len(found) > MOST_LISTED:
            raise TooMany()
        # The last one is taken first: so they come ascending.
        ahead.extend([choice + (place,) for place in reversed(list(stars)) if _can_be_next(stars, choice, place)])
    return found


def can_stay_free(web, places):
    """Whether some ORDER leaves all these PLACES free."""
    web, places = _need_web_places(web, places)
    return _reasons(web, places) == []


def never_free(web):
    """The set of the PLACES that each ORDER takes."""
    web = need_web(web)
    stars = plain_stars(web)
    return tuple([place for place in range(web[0]) if place not in stars])


def order_free(web, choice):
    """An ORDER behind which all PLACES of the CHOICE are free."""
    web, choice = _need_web_choice(web, choice)
    # Their GUESTS come first, and find the PLACES that they want free, as
    # these are all unlike; nobody else ends at a PLACE of the CHOICE.
    first = tuple([guest for place in choice for guest in guests_at(web, place)])
    return first + others_of(web, first)


def is_order_free(web, choice, thing):
    """Whether thing is an ORDER behind which all PLACES of the CHOICE are free."""
    web, choice = _need_web_choice(web, choice)
    if not is_order(web, thing):
        return False
    free = free_places(web, thing)
    return all([place in free for place in choice])


def why_not_free(web, places):
    """A REASON why the PLACES are no CHOICE; CanNot() if they are one."""
    web, places = _need_web_places(web, places)
    reasons = _reasons(web, places)
    if reasons == []:
        raise CanNot()
    return reasons[0]


def is_why_not_free(web, places, thing):
    """Whether thing is a REASON why the PLACES are no CHOICE."""
    web, places = _need_web_places(web, places)
    if not isinstance(thing, tuple) or not is_numbers(thing[1:]):
        return False
    return thing in _reasons(web, places)


# What stands below is of a WEB and of PLACES that are sure to be such.


def star_of(web, place):
    """The STAR of the PLACE."""
    return tuple(sorted(set([place] + [end for pair in web[1] if place in pair for end in pair])))


def plain_stars(web):
    """The dict that tells the STAR of each unwanted PLACE with a plain one, ascending."""
    return plain_stars_among(web, unwanted(web))


def plain_stars_among(web, places):
    """The dict that tells the STAR of each of these PLACES with a plain one."""
    return {place: star_of(web, place) for place in places if _is_plain_at(web, place)}


def are_apart(one, other):
    """Whether the two STARS have no PLACE in common."""
    return not any([place in other for place in one])


def _need_web_place(web, place):
    """The WEB; refuses what is none, no number, no PLACE."""
    web = need_web(web)
    need_number(place)
    need_place(web, place)
    return web


def _need_web_places(web, places):
    """The pair of the WEB and the set of PLACES; Unfit() if one is none."""
    web = need_web(web)
    places = as_tuples(places, 1)
    if not is_set_below(places, web[0]):
        raise Unfit()
    return (web, places)


def _need_web_choice(web, choice):
    """The pair of the WEB and the CHOICE; Unfit() if one is none."""
    web = need_web(web)
    choice = as_tuples(choice, 1)
    if not is_choice(web, choice):
        raise Unfit()
    return (web, choice)


def _is_plain_at(web, place):
    """Whether the STAR of the PLACE is plain: as many GUESTS as other PLACES."""
    return len(guests_at(web, place)) == len(star_of(web, place)) - 1


def _can_be_next(stars, choice, place):
    """Whether the PLACE, of those with these STARS, makes a CHOICE with the lesser ones of the choice."""
    if choice != () and place <= choice[-1]:
        return False
    return all([are_apart(stars[own], stars[place]) for own in choice])


def _reasons(web, places):
    """The list of all REASONS why the PLACES are no CHOICE."""
    return _wanted_in(web, places) + _twice_in(web, places) + _near_in(web, places)


def _wanted_in(web, places):
    """The REASONS that a GUEST wants a PLACE."""
    return [("wanted", pair[0], guest) for guest, pair in enumerate(web[1]) if pair[0] in places]


def _twice_in(web, places):
    """The REASONS that two GUESTS have the same ends, a PLACE one of them."""
    ends = [sorted(pair) for pair in web[1]]
    pairs = [(one, other) for other in range(len(ends)) for one in range(other) if ends[one] == ends[other]]
    return [("twice", place, one, other) for one, other in pairs for place in ends[one] if place in places]


def _near_in(web, places):
    """The REASONS that the STARS of two PLACES have one in common."""
    stars = [star_of(web, place) for place in places]
    pairs = [(one, other) for other in range(len(places)) for one in range(other)]
    return [
        ("near", places[one], places[other], common)
        for one, other in pairs
        for common in stars[one]
        if common in stars[other]
    ]
