"""[19], counts.py: SHARES, by how many ORDERS so many are WITHOUT, free PLACES, LOTS, OUTCOMES."""

import unittest
from math import factorial

from examples import check_examples
from small import (
    NO_NUMBERS, NO_WEBS, as_lists, few_webs, free_by_lot, great_webs, orders_by_outcome, orders_of, seats_by_hand,
    small_webs,
)

from leftwithout import counts, errors
from leftwithout.counts import by_without, chance, free_orders, how_many_lots, how_many_outcomes, lots, shares
from leftwithout.errors import NoGuest, TooMany, Unfit
from leftwithout.lots import can_be_without
from leftwithout.most import fewest, most
from leftwithout.together import never_without

EXAMPLES = r'''
>>> street, two, table = (4, ((0, 1), (1, 2), (1, 0), (3, 2))), (2, ((0, 1), (0, 1), (1, 0))), (4, ((0, 1), (2, 1), (2, 3), (0, 3)))
>>> shares(street), by_without(street), free_orders(street)
(((20, 0, 4), (12, 12, 0), (12, 4, 8), (24, 0, 0)), (12, 12, 0, 0, 0), (0, 0, 12, 0))
>>> lots(street), how_many_lots(street), how_many_outcomes(street), chance(street, 2)
([(), (0,), (2,)], 3, 3, (12, 4, 8))
>>> shares(two), by_without(two), free_orders(two), lots(two), how_many_outcomes(two)
(((3, 1, 2), (3, 1, 2), (4, 0, 2)), (0, 6, 0, 0), (0, 0), [(0,), (1,), (2,)], 4)
>>> shares(table), how_many_lots(table), by_without([4, [[0, 1], [2, 1], [2, 3], [0, 3]]])
(((12, 9, 3), (12, 9, 3), (12, 9, 3), (12, 9, 3)), 5, (12, 12, 0, 0, 0))
>>> shares((1, ())), by_without((1, ())), free_orders((1, ())), lots((1, ())), how_many_outcomes((1, ()))
((), (1,), (1,), [()], 1)
>>> free_orders((3, ((0, 1),))), chance((3, ((0, 1),)), 0)
((0, 1, 1), (1, 0, 0))
>>> chance(street, 4)
raises NoGuest(guest=4)
>>> shares((2, ((0, 1),) * 11))
raises TooMany()
'''

SMALL = few_webs(4, 4) + few_webs(3, 5) + tuple(small_webs())
OF_THE_WEB = (shares, by_without, free_orders, how_many_lots, lots, how_many_outcomes)
CROWD = (2, ((0, 1), (1, 0)) * 5)
APART = (20, tuple((2 * k, 2 * k + 1) for k in range(10)))
HUB = (11, tuple((0, k + 1) for k in range(10)))


def middling_webs():
    """Some WEBS of up to six GUESTS and up to ten PLACES, few enough for all their ORDERS."""
    for places in (3, 4, 5, 6, 10):
        yield from great_webs(12, places, 6)


def counted_by_hand(web):
    """SHARES, by_without and free_orders, told ORDER by ORDER."""
    count = len(web[1])
    own, gone, free = [[0, 0, 0] for _ in range(count)], [0] * (count + 1), [0] * web[0]
    for order in orders_of(web):
        told = seats_by_hand(web, order)
        for guest, place in told:
            own[guest][(*web[1][guest], None).index(place)] += 1
        gone[[place for _, place in told].count(None)] += 1
        for place in range(web[0]):
            free[place] += place not in [seat for _, seat in told]
    return tuple(map(tuple, own)), tuple(gone), tuple(free)


class Examples(unittest.TestCase):
    def test_examples(self):
        check_examples(self, {**vars(errors), **vars(counts)}, EXAMPLES)


class ByAllOrders(unittest.TestCase):
    """The answers beside all ORDERS of small WEBS, run one after another."""

    def test_orders_counted(self):
        for web in [*SMALL, *middling_webs()]:
            own, gone, free = counted_by_hand(web)
            self.assertEqual((shares(web), by_without(web), free_orders(web)), (own, gone, free))
            self.assertEqual(tuple(chance(web, guest) for guest in range(len(web[1]))), own)

    def test_lots(self):
        for web in [*SMALL, *middling_webs()]:
            told = lots(web)
            self.assertIsInstance(told, list)
            self.assertEqual(told, sorted(free_by_lot(web)))
            self.assertEqual(how_many_lots(web), len(told))

    def test_outcomes(self):
        for web in [*SMALL, *middling_webs()]:
            self.assertEqual(how_many_outcomes(web), len(orders_by_outcome(web)))


class Guarantees(unittest.TestCase):
    def check_sums(self, web):
        everything = factorial(len(web[1]))
        own, gone, free = shares(web), by_without(web), free_orders(web)
        self.assertEqual([sum(share) for share in own], [everything] * len(web[1]))
        self.assertEqual((sum(gone), len(gone), len(free)), (everything, len(web[1]) + 1, web[0]))
        without = sum(number * many for number, many in enumerate(gone))
        self.assertEqual(sum(share[2] for share in own), without)
        self.assertEqual(sum(free) - without, everything * (web[0] - len(web[1])))
        self.assertEqual([guest for guest, share in enumerate(own) if share[2] == 0], list(never_without(web)))

    def test_sums(self):
        for web in [*few_webs(4, 3), *great_webs(40, 9, 10), *great_webs(10, 6, 10), *great_webs(10, 40, 10), CROWD, APART, HUB]:
            self.check_sums(web)

    def test_from_the_fewest_to_the_most(self):
        for web in [*few_webs(4, 4), *great_webs(40, 9, 10), *great_webs(10, 6, 10)]:
            told = [number for number, many in enumerate(by_without(web)) if many]
            self.assertEqual(told, list(range(fewest(web), most(web) + 1)))

    def test_guests_with_one_wanted_place_and_one_other(self):
        for web in [*few_webs(3, 4), *great_webs(20, 4, 10)]:
            own = shares(web)
            for guest, pair in enumerate(web[1]):
                self.assertEqual(own[guest], own[web[1].index(pair)])

    def test_one_lot_if_nobody_can_be_without(self):
        for web in few_webs(4, 4):
            if most(web) == 0:
                self.assertEqual((lots(web), how_many_lots(web)), ([()], 1))

    def test_lots_of_great_webs(self):
        for web in [*great_webs(10, 9, 10), *great_webs(3, 40, 10), APART, HUB]:
            told = lots(web)
            self.assertEqual(told, sorted({*told}))
            for lot in told[:20]:
                self.assertIs(can_be_without(web, lot), True)

    def test_each_list_is_new(self):
        told = lots(CROWD)
        told.append(None)
        self.assertEqual(len(lots(CROWD)), len(told) - 1)


class Bounds(unittest.TestCase):
    def test_ten_guests(self):
        self.assertEqual([share[2] for share in shares(CROWD)], [8 * factorial(9)] * 10)
        self.assertEqual(by_without(CROWD), (0,) * 8 + (factorial(10), 0, 0))
        self.assertEqual((how_many_lots(CROWD), free_orders(CROWD)), (45, (0, 0)))
        self.assertEqual(shares(APART), ((factorial(10), 0, 0),) * 10)
        self.assertEqual((lots(APART), how_many_outcomes(APART)), ([()], 1))
        self.assertEqual(free_orders(APART), (0, factorial(10)) * 10)
        self.assertEqual(shares(HUB), ((factorial(9), 9 * factorial(9), 0),) * 10)
        self.assertEqual((free_orders(HUB), how_many_outcomes(HUB)), ((0,) + (factorial(9),) * 10, 10))

    def test_eleven_are_too_many(self):
        for web in ((2, ((0, 1),) * 11), (40, tuple((k, k + 1) for k in range(11))), (40, ((0, 1), (1, 0)) * 20)):
            for told in OF_THE_WEB:
                self.assertRaises(TooMany, told, web)
                self.assertRaises(TooMany, told, as_lists(web))
            for guest in (0, 10):
                self.assertRaises(TooMany, chance, web, guest)

    def test_no_guest_ahead_of_too_many(self):
        for web in ((2, ((0, 1),) * 11), (2, ((0, 1),) * 3), (1, ())):
            for guest in (11, -1, 10 ** 6):
                with self.subTest(web=web, guest=guest), self.assertRaises(NoGuest) as caught:
                    chance(web, guest)
                self.assertEqual(caught.exception.guest, guest)
            for guest in NO_NUMBERS:
                self.assertRaises(Unfit, chance, web, guest)

    def test_nobody_and_one(self):
        self.assertEqual((shares((40, ())), by_without((40, ())), free_orders((40, ()))), ((), (1,), (1,) * 40))
        self.assertEqual((lots((40, ())), how_many_lots((40, ())), how_many_outcomes((40, ()))), ([()], 1, 1))
        self.assertEqual((shares((2, ((1, 0),))), free_orders((2, ((1, 0),)))), (((1, 0, 0),), (1, 0)))


class Refusals(unittest.TestCase):
    def test_no_webs(self):
        for wrong in NO_WEBS:
            for told in OF_THE_WEB:
                self.assertRaises(Unfit, told, wrong)
            self.assertRaises(Unfit, chance, wrong, 0)


if __name__ == "__main__":
    unittest.main()
