"""Small webs, rows and texts to go through, and values of wrong kinds."""

from itertools import permutations, product


def small_webs(most_places=3, most_guests=3):
    """All WEBS with at most so many PLACES and GUESTS."""
    for many in range(1, most_places + 1):
        pairs = list(permutations(range(many), 2))
        for count in range(most_guests + 1):
            for guests in product(pairs, repeat=count):
                yield (many, guests)


def rows_of(web):
    """All ROWS of the WEB."""
    guests = range(len(web[1]))
    for long in range(len(guests) + 1):
        yield from permutations(guests, long)


def orders_of(web):
    """All ORDERS of the WEB."""
    return permutations(range(len(web[1])))


def small_words(longest=5):
    """All WORDS that are not longer."""
    for long in range(1, longest + 1):
        yield from product((0, 1), repeat=long)


def as_lists(value):
    """The value with lists in the place of tuples, at any depth."""
    if isinstance(value, (list, tuple)):
        return [as_lists(own) for own in value]
    return value


def as_mixed(value, turn=0):
    """The value with lists in the place of tuples in each other level."""
    if isinstance(value, (list, tuple)):
        own = [as_mixed(part, turn + 1) for part in value]
        return own if turn % 2 else tuple(own)
    return value


def in_itself():
    """A list that is its own item, twice."""
    value = []
    value.extend([value, value])
    return value


def nested(levels):
    """A list nested so deep that nothing may follow it."""
    value = []
    for _ in range(levels):
        value = [value]
    return value


NO_NUMBERS = (None, True, False, "0", "", b"0", 0.0, 1.0, (), (0,), [], [0], {}, {0: 0}, {0}, object())

# These are no WEB, no WORD, no ROW and no ORDER of any WEB.
NOTHING_AT_ALL = (
    None, True, False, 0, 1, -1, 2.0, "", "ab", "01", b"", b"\x01", {}, {0: 1, 1: 0}, {0, 1}, frozenset((0,)),
    range(2), object(), iter(()), ("0",), (None,), (True,), (0, False), (1.0,), ((0,),), [[0]], ([],),
    (0, 1, 0.5), in_itself(), nested(5000), (nested(5000), 1), (1, nested(5000)), (2, in_itself()),
)

NO_WEBS = NOTHING_AT_ALL + (
    (), [], (1,), (1, (), ()), (0, ()), (-1, ()), (True, ()), (2.0, ()), ("2", ()), (None, ()), ((), 2),
    (2, None), (2, 0), (2, "ab"), (2, {}), (2, {(0, 1): 0}), (2, (0, 1)), (2, (None,)), (2, ("01",)),
    (2, ((),)), (2, ((0,),)), (2, ((0, 1, 0),)), (2, ((0, 0),)), (2, ((1, 1),)), (2, ((0, 2),)), (2, ((2, 0),)),
    (2, ((-1, 0),)), (2, ((0, -1),)), (2, ((True, 0),)), (2, ((1, False),)), (2, ((0, 1.0),)), (2, ((0, None),)),
    (2, (((0,), 1),)), (2, ((0, 1), (0, 2))), (2, ((0, 1), None)), (1, ((0, 1),)), (2, ({0, 1},)), (2, ({0: 1, 1: 0},)),
)

NO_WORDS = NOTHING_AT_ALL + ((), [], (2,), (-1,), (0, 2), (0, -1), (0, True), (0, None), (0, 1.0), (0, (1,)), (0, "1"))
