"""[15], oneless.py: what comes of it if a GUEST stays away."""

import unittest

from examples import check_examples
from small import NO_NUMBERS, NO_ORDERS, few_webs, great_webs, orders_of, seats_by_hand

from leftwithout import errors, oneless
from leftwithout.errors import CanNot, NoGuest, Unfit
from leftwithout.oneless import harmless, helped, helpers, less, spare

EXAMPLES = r'''
>>> web, order = (5, ((1, 0), (2, 1), (3, 2), (3, 4))), (3, 2, 1, 0)
>>> less(web, order, 3)
[((), ()), ((3,), ()), ((2, 3), (3,)), ((1, 2, 3), (2, 3)), ((0, 1, 2, 3), (1, 2, 3))]
>>> spare(web, order, 3), helped(web, order, 3), harmless(web, order), less(web, order, 0)[3:]
(0, None, (0,), [((1, 2, 3), (1, 2, 3)), ((0, 1, 2, 3), (1, 2, 3))])
>>> tables, late = (5, ((1, 0), (1, 2), (3, 2), (4, 3), (4, 0))), (3, 2, 1, 0, 4)
>>> helped(tables, late, 0), helped(tables, late, 1), helped(tables, late, 3), helped(tables, late, 2), spare(tables, late, 1), spare(tables, late, 2)
(4, 4, 4, None, None, 3)
>>> helpers(tables, late, 4), harmless(tables, late), spare(tables, late, 4)
((0, 1, 3), (2, 4), None)
>>> helpers(tables, late, 1)
raises CanNot()
>>> less(web, order, 4)
raises NoGuest(guest=4)
>>> harmless(web, (0, 1, 2))
raises Unfit()
'''

HALL = (5, ((0, 1), (2, 1), (2, 0), (3, 1), (1, 3)))
TABLES, LATE = (5, ((1, 0), (1, 2), (3, 2), (4, 3), (4, 0))), (3, 2, 1, 0, 4)
# Each finds its wanted place taken by the one ahead of it; the first one has its own.
PUSHED = (41, ((0, 40),) + tuple((k, k + 1) for k in range(39)))


def webs_and_orders(webs):
    for web in webs:
        for order in orders_of(web):
            yield web, order


def orders_and_guests(webs):
    for web, order in webs_and_orders(webs):
        for guest in order:
            yield web, order, guest


def rest_of(order, guest):
    return tuple(own for own in order if own != guest)


def had(web, row):
    """What each GUEST of the ROW has, None if it is WITHOUT."""
    return dict(seats_by_hand(web, row))


def taken(web, row):
    """The set of the PLACES taken behind the ROW."""
    return tuple(sorted(place for place in had(web, row).values() if place is not None))


def helped_by_hand(web, order, guest):
    before, after = had(web, order), had(web, rest_of(order, guest))
    found = [own for own in after if before[own] is None and after[own] is not None]
    assert len(found) < 2
    return found[0] if found else None


SMALL = few_webs(4, 3) + few_webs(3, 4)


class Examples(unittest.TestCase):
    def test_examples(self):
        check_examples(self, {**vars(errors), **vars(oneless)}, EXAMPLES)


class ByHand(unittest.TestCase):
    def test_less(self):
        for web, order, guest in orders_and_guests(SMALL):
            told = []
            for come in range(len(order) + 1):
                row = order[:come]
                told.append((taken(web, row), taken(web, rest_of(row, guest))))
            self.assertEqual(less(web, order, guest), told)

    def test_spare(self):
        for web, order, guest in orders_and_guests(SMALL):
            more = {*taken(web, order)} - {*taken(web, rest_of(order, guest))}
            self.assertLess(len(more), 2)
            self.assertEqual(spare(web, order, guest), more.pop() if more else None)

    def test_helped(self):
        for web, order, guest in orders_and_guests(SMALL):
            self.assertEqual(helped(web, order, guest), helped_by_hand(web, order, guest))

    def test_helpers(self):
        for web, order, guest in orders_and_guests(SMALL):
            if had(web, order)[guest] is None:
                told = [own for own in range(len(order)) if own != guest and helped_by_hand(web, order, own) == guest]
                self.assertEqual(helpers(web, order, guest), tuple(told))
            else:
                self.assertRaises(CanNot, helpers, web, order, guest)

    def test_harmless(self):
        for web, order in webs_and_orders(SMALL):
            before, told = had(web, order), []
            for guest in range(len(order)):
                after = had(web, rest_of(order, guest))
                if all(before[own] == after[own] for own in after):
                    told.append(guest)
            self.assertEqual(harmless(web, order), tuple(told))


class Guarantees(unittest.TestCase):
    def check(self, web, order, guest):
        for here, there in less(web, order, guest):
            self.assertLessEqual({*there}, {*here})
            self.assertLessEqual(len(here), len(there) + 1)
        before, after = had(web, order), had(web, rest_of(order, guest))
        for own, place in after.items():
            self.assertFalse(place is None and before[own] is not None)
        # Just one of these three is so.
        has_none, more = before[guest] is None, spare(web, order, guest) is not None
        self.assertEqual([has_none, more, helped(web, order, guest) is not None].count(True), 1)
        if has_none:
            self.assertEqual({own: before[own] for own in after}, after)
            self.assertIn(guest, harmless(web, order))

    def test_small_webs(self):
        for web, order, guest in orders_and_guests(few_webs(3, 4)):
            self.check(web, order, guest)

    def test_great_webs(self):
        for web in great_webs(8):
            everybody = tuple(range(len(web[1])))
            for order in (everybody, everybody[::-1]):
                for guest in everybody[::3]:
                    self.check(web, order, guest)
                    self.assertEqual(helped(web, order, guest), helped_by_hand(web, order, guest))

    def test_helpers_in_great_webs(self):
        for web in great_webs(8, 30, 40):
            order = tuple(range(len(web[1])))
            for guest, place in had(web, order).items():
                if place is None:
                    told = [own for own in order if own != guest and helped_by_hand(web, order, own) == guest]
                    self.assertEqual(helpers(web, order, guest), tuple(told))


class Bounds(unittest.TestCase):
    def test_forty_pushed_on(self):
        order = tuple(range(40))
        told = less(PUSHED, order, 0)
        self.assertEqual(told[0], ((), ()))
        self.assertEqual(told[40], (tuple(range(40)), tuple(range(39))))
        self.assertEqual(told, [(tuple(range(k)), tuple(range(max(k - 1, 0)))) for k in range(41)])
        self.assertEqual((spare(PUSHED, order, 0), helped(PUSHED, order, 0), harmless(PUSHED, order)), (39, None, (39,)))

    def test_forty_for_two_places(self):
        web, order = (2, ((0, 1), (1, 0)) * 20), tuple(range(39, -1, -1))
        self.assertEqual(helped(web, order, 39), 37)
        self.assertEqual(helpers(web, order, 37), (38, 39))
        self.assertEqual(helpers(web, order, 0), ())
        self.assertEqual(harmless(web, order), tuple(range(38)))

    def test_one_guest(self):
        web = (2, ((1, 0),))
        self.assertEqual(less(web, (0,), 0), [((), ()), ((1,), ())])
        self.assertEqual((spare(web, (0,), 0), helped(web, (0,), 0), harmless(web, (0,))), (1, None, (0,)))
        self.assertRaises(CanNot, helpers, web, (0,), 0)

    def test_nobody(self):
        self.assertEqual(harmless((1, ()), ()), ())
        self.assertEqual(harmless((40, ()), ()), ())
        for told in (less, spare, helped, helpers):
            for guest in (0, -1):
                self.assertRaises(NoGuest, told, (1, ()), (), guest)


class Refusals(unittest.TestCase):
    def test_no_guest_ahead_of_can_not(self):
        for guest in (5, -1, -5, 10 ** 6):
            for told in (less, spare, helped, helpers):
                with self.subTest(told.__name__, guest=guest), self.assertRaises(NoGuest) as caught:
                    told(TABLES, LATE, guest)
                self.assertEqual(vars(caught.exception), {"guest": guest})

    def test_unfit_ahead_of_no_guest(self):
        for told in (less, spare, helped, helpers):
            for order in NO_ORDERS:
                self.assertRaises(Unfit, told, HALL, order, 5)
            for guest in NO_NUMBERS:
                self.assertRaises(Unfit, told, TABLES, LATE, guest)
            self.assertRaises(Unfit, told, (5, ((0, 0),)), (0,), 5)
        for order in NO_ORDERS:
            self.assertRaises(Unfit, harmless, HALL, order)

    def test_lists_are_new(self):
        told = less(TABLES, LATE, 1)
        told.clear()
        self.assertEqual(len(less(TABLES, LATE, 1)), 6)


if __name__ == "__main__":
    unittest.main()
