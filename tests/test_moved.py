"""[16], moved.py: MOVED WAYS, a GUEST put earlier or later, who loses and who wins."""

import unittest

from examples import check_examples
from small import NO_NUMBERS, NO_ORDERS, few_webs, great_webs, orders_of, seats_by_hand

from leftwithout import errors, moved
from leftwithout.errors import CanNot, NoGuest, Unfit
from leftwithout.moved import latest, lost_and_won, moved_way, places_left, put_at
from leftwithout.oneless import helped, spare
from leftwithout.runs import outcome_of

SET_EARLIER = r'''
>>> web, order = (5, ((1, 0), (2, 1), (3, 2), (3, 4))), (3, 2, 1, 0)
>>> tables, late = (5, ((1, 0), (1, 2), (3, 2), (4, 3), (4, 0))), (3, 2, 1, 0, 4)
'''

EXAMPLES = r'''
>>> moved_way(web, order, 3), places_left(web, order, 3), moved_way(web, order, 0), places_left(web, order, 0)
(((2, 3), (1, 2), (0, 1)), (3, 2, 1, 0), (), (0,))
>>> moved_way(tables, late, 1), places_left(tables, late, 1), moved_way(tables, late, 4), places_left(tables, late, 4)
(((0, 1), (4, 0)), (1, 0), (), ())
>>> [latest(tables, late, own) for own in range(5)], put_at(tables, late, 4, 3), lost_and_won(tables, late, 4, 3), lost_and_won(tables, late, 3, 4)
([3, 4, 4, 3, 3], (3, 2, 1, 4, 0), ((0,), ()), ((), (4,)))
>>> [outcome_of(tables, put_at(tables, late, 4, own))[4] for own in range(5)], latest(web, order, 3)
([4, 0, 0, 0, None], 3)
>>> pair = (2, ((0, 1), (0, 1), (1, 0)))
>>> [latest(pair, (0, 1, 2), own) for own in range(3)], lost_and_won(pair, (0, 1, 2), 2, 0), moved_way(pair, (0, 1, 2), 0)
([1, 1, 1], ((1,), ()), ((1, 0), (2, 1)))
>>> put_at(pair, (0, 1, 2), 0, 3)
raises CanNot()
>>> latest(pair, (0, 1, 2), -1)
raises NoGuest(guest=-1)
'''

HALL = (5, ((0, 1), (2, 1), (2, 0), (3, 1), (1, 3)))
PAIR = (2, ((0, 1), (0, 1), (1, 0)))
WITH_GUEST, WITH_NUMBER = (moved_way, places_left, latest), (put_at, lost_and_won)
SMALL = few_webs(4, 3) + few_webs(3, 4)


def orders_and_guests(webs):
    for web in webs:
        for order in orders_of(web):
            for guest in order:
                yield web, order, guest


def rest_of(order, guest):
    return [own for own in order if own != guest]


def put_by_hand(order, guest, number):
    row = rest_of(order, guest)
    row.insert(number, guest)
    return tuple(row)


def had(web, row):
    """What each GUEST of the ROW has, None if it is WITHOUT."""
    return dict(seats_by_hand(web, row))


def moved_by_hand(web, order, guest):
    before, told = had(web, order), []
    for own, place in seats_by_hand(web, rest_of(order, guest)):
        if before[own] != place:
            told.append((own, place))
    return tuple(told)


def lost_and_won_by_hand(web, order, guest, number):
    before, after = had(web, order), had(web, put_by_hand(order, guest, number))
    lost = {own for own in before if before[own] is not None and after[own] is None}
    won = {own for own in before if before[own] is None and after[own] is not None}
    return (tuple(sorted(lost - {guest})), tuple(sorted(won - {guest})))


class Examples(unittest.TestCase):
    def test_examples(self):
        names = {**vars(errors), **vars(moved), "outcome_of": outcome_of}
        check_examples(self, names, SET_EARLIER + EXAMPLES)


class ByHand(unittest.TestCase):
    def test_moved_way_and_places_left(self):
        for web, order, guest in orders_and_guests(SMALL):
            told, before = moved_by_hand(web, order, guest), had(web, order)
            self.assertEqual(moved_way(web, order, guest), told)
            places = [before[guest]] + [before[own] for own, _ in told]
            if before[guest] is None:
                places = []
            elif places[-1] is None:
                places.pop()
            self.assertEqual(places_left(web, order, guest), tuple(places))

    def test_put_at(self):
        for web, order, guest in orders_and_guests(few_webs(2, 4)):
            for number in range(len(order)):
                self.assertEqual(put_at(web, order, guest, number), put_by_hand(order, guest, number))

    def test_lost_and_won(self):
        for web, order, guest in orders_and_guests(few_webs(4, 3) + few_webs(3, 4)):
            for number in range(len(order)):
                told = lost_and_won_by_hand(web, order, guest, number)
                self.assertEqual(lost_and_won(web, order, guest, number), told)

    def test_latest(self):
        for web, order, guest in orders_and_guests(SMALL):
            seats = [had(web, put_by_hand(order, guest, number))[guest] for number in range(len(order))]
            self.assertEqual(latest(web, order, guest), max(k for k, place in enumerate(seats) if place is not None))


class Guarantees(unittest.TestCase):
    def check_way(self, web, order, guest):
        """Each takes what the one ahead of it had; the last one had none, or what it had is spare."""
        before, way = had(web, order), moved_way(web, order, guest)
        self.assertEqual(way, moved_by_hand(web, order, guest))
        left = places_left(web, order, guest)
        held = [before[guest]] + [before[own] for own, _ in way]
        self.assertEqual([place for _, place in way], held[:-1])
        if before[guest] is None:
            self.assertEqual((way, left), ((), ()))
            return
        helped_one, spare_one = helped(web, order, guest), spare(web, order, guest)
        self.assertEqual(left, tuple(held if helped_one is None else held[:-1]))
        self.assertEqual(len(left), len(way) + (helped_one is None))
        if helped_one is None:
            self.assertEqual(held[-1], spare_one)
        else:
            self.assertEqual((way[-1][0], held[-1], spare_one), (helped_one, None, None))

    def check_put(self, web, order, guest):
        """Seated exactly up to latest, never worse off the earlier; one at most loses, one at most wins."""
        last, (wish, other) = latest(web, order, guest), web[1][guest]
        worst = 0
        for number in range(len(order)):
            place = outcome_of(web, put_at(web, order, guest, number))[guest]
            self.assertIs(place is not None, number <= last)
            worth = (wish, other, None).index(place)
            self.assertGreaterEqual(worth, worst)
            worst = worth
            lost, won = lost_and_won(web, order, guest, number)
            self.assertLessEqual((len(lost), len(won)), (1, 1))
            self.assertLessEqual(len(won), 1)

    def test_small_webs(self):
        for web, order, guest in orders_and_guests(few_webs(3, 4)):
            self.check_way(web, order, guest)
            self.check_put(web, order, guest)

    def test_great_webs(self):
        for web in great_webs(6):
            everybody = tuple(range(len(web[1])))
            for guest in everybody[::4]:
                for order in (everybody, everybody[::-1]):
                    self.check_way(web, order, guest)
                self.check_put(web, everybody, guest)
                for number in everybody[::6]:
                    told = lost_and_won_by_hand(web, everybody, guest, number)
                    self.assertEqual(lost_and_won(web, everybody, guest, number), told)


class Bounds(unittest.TestCase):
    def test_forty_pushed_on(self):
        web, order = (41, ((0, 40),) + tuple((k, k + 1) for k in range(39))), tuple(range(40))
        self.assertEqual(moved_way(web, order, 0), tuple((k, k - 1) for k in range(1, 40)))
        self.assertEqual(places_left(web, order, 0), order)
        self.assertEqual(latest(web, order, 0), 39)
        self.assertEqual(put_at(web, order, 0, 39), order[1:] + (0,))
        self.assertEqual(put_at(web, order, 39, 0), (39,) + order[:39])
        self.assertEqual(lost_and_won(web, order, 0, 39), ((), ()))

    def test_forty_for_two_places(self):
        web, order = (2, ((0, 1), (1, 0)) * 20), tuple(range(40))
        self.assertEqual([latest(web, order, own) for own in (0, 1, 39)], [1, 1, 1])
        self.assertEqual(lost_and_won(web, order, 39, 0), ((1,), ()))
        self.assertEqual(lost_and_won(web, order, 0, 39), ((), (2,)))
        self.assertEqual((moved_way(web, order, 0), places_left(web, order, 0)), (((2, 0),), (0,)))

    def test_one_guest_and_nobody(self):
        web = (2, ((1, 0),))
        self.assertEqual((moved_way(web, (0,), 0), places_left(web, (0,), 0), latest(web, (0,), 0)), ((), (1,), 0))
        self.assertEqual((put_at(web, (0,), 0, 0), lost_and_won(web, (0,), 0, 0)), ((0,), ((), ())))
        self.assertRaises(CanNot, put_at, web, (0,), 0, 1)
        for told in WITH_GUEST:
            self.assertRaises(NoGuest, told, (1, ()), (), 0)
        for told in WITH_NUMBER:
            self.assertRaises(NoGuest, told, (1, ()), (), 0, 0)


class Refusals(unittest.TestCase):
    def test_numbers_that_are_none_of_the_row(self):
        for told in WITH_NUMBER:
            for number in (3, 4, -1, -3, 10 ** 6, -10 ** 6):
                self.assertRaises(CanNot, told, PAIR, (0, 1, 2), 0, number)

    def test_no_guest_ahead_of_can_not(self):
        for guest in (3, -1, 10 ** 6):
            for told in WITH_GUEST:
                with self.assertRaises(NoGuest) as caught:
                    told(PAIR, (0, 1, 2), guest)
                self.assertEqual(vars(caught.exception), {"guest": guest})
            for told in WITH_NUMBER:
                for number in (0, 3, -1):
                    with self.assertRaises(NoGuest) as caught:
                        told(PAIR, (0, 1, 2), guest, number)
                    self.assertEqual(vars(caught.exception), {"guest": guest})

    def test_unfit_ahead_of_all(self):
        for told in WITH_GUEST:
            for order in NO_ORDERS:
                self.assertRaises(Unfit, told, HALL, order, 9)
            for guest in NO_NUMBERS:
                self.assertRaises(Unfit, told, PAIR, (0, 1, 2), guest)
        for told in WITH_NUMBER:
            for order in NO_ORDERS:
                self.assertRaises(Unfit, told, HALL, order, 9, -1)
            for wrong in NO_NUMBERS:
                self.assertRaises(Unfit, told, PAIR, (0, 1, 2), wrong, 9)
                self.assertRaises(Unfit, told, PAIR, (0, 1, 2), 9, wrong)


if __name__ == "__main__":
    unittest.main()
