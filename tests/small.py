"""Small webs, rows and texts to go through, runs by hand, and values of wrong kinds."""

from functools import lru_cache
from itertools import combinations, combinations_with_replacement, permutations, product
from random import Random


def small_webs(most_places=3, most_guests=3):
    """All WEBS with at most so many PLACES and GUESTS."""
    for many in range(1, most_places + 1):
        pairs = list(permutations(range(many), 2))
        for count in range(most_guests + 1):
            for guests in product(pairs, repeat=count):
                yield (many, guests)


@lru_cache(maxsize=None)
def few_webs(most_places=4, most_guests=4):
    """The WEBS with at most so many PLACES and GUESTS, one for all that differ in the order of GUESTS."""
    found = []
    for many in range(1, most_places + 1):
        pairs = list(permutations(range(many), 2))
        for count in range(most_guests + 1):
            found += [(many, guests) for guests in combinations_with_replacement(pairs, count)]
    return tuple(found)


def great_webs(count=60, places=40, guests=40):
    """So many WEBS with that many PLACES and up to that many GUESTS, the same ones each time."""
    luck = Random(7)
    for _ in range(count):
        own = [tuple(luck.sample(range(places), 2)) for _ in range(luck.randint(guests // 4, guests))]
        yield (places, tuple(own))


def sets_of(many):
    """All sets of numbers from 0 on below many."""
    for long in range(many + 1):
        yield from combinations(range(many), long)


def lots_of(web):
    """All LOTS of the WEB."""
    return sets_of(len(web[1]))


def takings_of(web):
    """All TAKINGS of the WEB."""
    for taking in product(*[(None,) + pair for pair in web[1]]):
        had = [place for place in taking if place is not None]
        if len({*had}) == len(had):
            yield taking


def rows_of(web):
    """All ROWS of the WEB."""
    guests = range(len(web[1]))
    for long in range(len(guests) + 1):
        yield from permutations(guests, long)


def orders_of(web):
    """All ORDERS of the WEB."""
    return permutations(range(len(web[1])))


def wants_of(web):
    """All WANTS of the WEB."""
    return product((0, 1), repeat=len(web[1]))


def wanting_by_hand(web, wants):
    """The WEB with the ends of each GUEST exchanged that has 1."""
    return (web[0], tuple((other, wish) if own else (wish, other) for (wish, other), own in zip(web[1], wants)))


def seats_by_hand(web, row):
    """Told one by one: (guest, its place or None) in the order of the row."""
    free, told = dict.fromkeys(range(web[0]), True), []
    for guest in row:
        wish, other = web[1][guest]
        place = wish if wish in free else other if other in free else None
        free.pop(place, None)
        told.append((guest, place))
    return told


@lru_cache(maxsize=None)
def free_by_lot(web):
    """Each LOT that is WITHOUT by some ORDER, with the set of what such ORDERS leave free."""
    found = {}
    for order in orders_of(web):
        told = seats_by_hand(web, order)
        lot = tuple(sorted(guest for guest, place in told if place is None))
        taken = [place for _, place in told]
        found.setdefault(lot, set()).add(tuple(place for place in range(web[0]) if place not in taken))
    return found


def outcome_by_hand(web, order):
    """The OUTCOME of the ORDER."""
    return tuple(place for _, place in sorted(seats_by_hand(web, order)))


@lru_cache(maxsize=None)
def orders_by_outcome(web):
    """Each OUTCOME with the tuple, ascending, of the ORDERS that lead to it."""
    found = {}
    for order in orders_of(web):
        found.setdefault(outcome_by_hand(web, order), []).append(order)
    return {outcome: tuple(orders) for outcome, orders in found.items()}


def arrows_by_hand(web, taking):
    """The ARROWS, pair by pair as they are told."""
    found = set()
    for first, later in permutations(range(len(taking)), 2):
        wish, other = web[1][later]
        finds = {other: (wish,), None: (wish, other)}.get(taking[later], ())
        if taking[first] is not None and taking[first] in finds:
            found.add((first, later))
    return found


def lacking_by_hand(web, taking):
    """The GUESTS that have not what they rather had, though nobody has it."""
    found = []
    for guest, (wish, other) in enumerate(web[1]):
        if taking[guest] == other and wish not in taking:
            found.append(guest)
        if taking[guest] is None and (wish not in taking or other not in taking):
            found.append(guest)
    return tuple(found)


def rings_by_hand(web, taking):
    """All RINGS, each told from each of its GUESTS on."""
    arrows, found = arrows_by_hand(web, taking), set()
    for long in range(2, len(taking) + 1):
        for guests in permutations(range(len(taking)), long):
            ring = guests + guests[:1]
            if all(pair in arrows for pair in zip(ring, ring[1:])):
                found.add(ring)
    return found


def parts_by_hand(web, lot):
    """The PARTS, put together GUEST by GUEST."""
    found = [{place} for place in range(web[0])]
    for guest in lot:
        met = [part for part in found if part & {*web[1][guest]}]
        found = [part for part in found if part not in met] + [set().union(*met)]
    return tuple(sorted(tuple(sorted(part)) for part in found))


def guests_by_hand(web, lot, part):
    """The GUESTS of the LOT that end in the PART."""
    return tuple(guest for guest in lot if {*web[1][guest]} & {*part})


def small_words(longest=5):
    """All WORDS that are not longer."""
    for long in range(1, longest + 1):
        yield from product((0, 1), repeat=long)


def as_lists(value):
    """The value with lists in the place of tuples, at any depth."""
    if isinstance(value, (list, tuple)):
        return [as_lists(own) for own in value]
    return value


def as_mixed(value, turn=0):
    """The value with lists in the place of tuples in each other level."""
    if isinstance(value, (list, tuple)):
        own = [as_mixed(part, turn + 1) for part in value]
        return own if turn % 2 else tuple(own)
    return value


def in_itself():
    """A list that is its own item, twice."""
    value = []
    value.extend([value, value])
    return value


def nested(levels):
    """A list nested so deep that nothing may follow it."""
    value = []
    for _ in range(levels):
        value = [value]
    return value


NO_NUMBERS = (None, True, False, "0", "", b"0", 0.0, 1.0, (), (0,), [], [0], {}, {0: 0}, {0}, object())

# These are no WEB, no WORD, no ROW, no ORDER and no LOT of any WEB.
NOTHING_AT_ALL = (
    None, True, False, 0, 1, -1, 2.0, "", "ab", "01", b"", b"\x01", {}, {0: 1, 1: 0}, {0, 1}, frozenset((0,)),
    range(2), object(), iter(()), ("0",), (None,), (True,), (0, False), (1.0,), ((0,),), [[0]], ([],),
    (0, 1, 0.5), in_itself(), nested(5000), (nested(5000), 1), (1, nested(5000)), (2, in_itself()),
)

NO_WEBS = NOTHING_AT_ALL + (
    (), [], (1,), (1, (), ()), (0, ()), (-1, ()), (True, ()), (2.0, ()), ("2", ()), (None, ()), ((), 2),
    (2, None), (2, 0), (2, "ab"), (2, {}), (2, {(0, 1): 0}), (2, (0, 1)), (2, (None,)), (2, ("01",)),
    (2, ((),)), (2, ((0,),)), (2, ((0, 1, 0),)), (2, ((0, 0),)), (2, ((1, 1),)), (2, ((0, 2),)), (2, ((2, 0),)),
    (2, ((-1, 0),)), (2, ((0, -1),)), (2, ((True, 0),)), (2, ((1, False),)), (2, ((0, 1.0),)), (2, ((0, None),)),
    (2, (((0,), 1),)), (2, ((0, 1), (0, 2))), (2, ((0, 1), None)), (1, ((0, 1),)), (2, ({0, 1},)), (2, ({0: 1, 1: 0},)),
)

NO_ROWS = NOTHING_AT_ALL + ((0, 0), (1, 2, 1), (5,), (-1,), (0, 5), [0, True], (0, [1]))

NO_ORDERS = NO_ROWS + ((), (0, 1, 2, 3), (0, 1, 2, 3, 4, 4), [1, 2, 3, 4, 5])

NO_LOTS = NO_ROWS + ((1, 0), (0, 2, 1), (4, 5), (0, 1, 1), [2, 2], (0, None), (0, "1"))

NO_WORDS = NOTHING_AT_ALL + ((), [], (2,), (-1,), (0, 2), (0, -1), (0, True), (0, None), (0, 1.0), (0, (1,)), (0, "1"))

# These are no WANTS of a WEB of five GUESTS.
NO_WANTS = NOTHING_AT_ALL + (
    (), (0, 1, 0, 1), (0, 1, 0, 1, 2), (0, 1, 0, 1, -1), [0, True, 0, 0, 0], (0, 1, 0, 1, None), (0,) * 6,
)
