"""[6], runs.py, and [3]: ROWS, ORDERS, TAKINGS, MOMENTS."""

import unittest
from itertools import product

from examples import check_examples
from small import NO_WEBS, NOTHING_AT_ALL, orders_of, rows_of, seats_by_hand, small_webs

from leftwithout import errors, runs
from leftwithout.errors import CanNot, NoGuest, Unfit
from leftwithout.runs import (
    found_gone, free_places, is_order, is_row, moments, next_seat, outcome_of, pleased_of, seated, without_of,
)

EXAMPLES = r'''
>>> hall = (5, ((0, 1), (2, 1), (2, 0), (3, 1), (1, 3)))
>>> seated(hall, (2, 1)), outcome_of(hall, (0, 1, 2, 3, 4)), outcome_of(hall, (4, 2, 1, 0, 3))
((None, 1, 2, None, None), (0, 2, None, 3, 1), (0, None, 2, 3, 1))
>>> moments(hall, (2, 1, 0, 4)), moments(hall, ())
(((), (2,), (1, 2), (0, 1, 2), (0, 1, 2, 3)), ((),))
>>> free_places(hall, (2, 1, 0, 4)), free_places(hall, ()), without_of(hall, (2, 1, 0, 4, 3)), pleased_of(hall, (2, 1, 0, 4, 3)), found_gone(hall, (2, 1, 0, 4, 3))
((4,), (0, 1, 2, 3, 4), (3,), (0, 2), 3)
>>> next_seat(hall, (2, 1), 4), next_seat(hall, (1, 0, 4), 2), next_seat(hall, (), 3)
(3, None, 3)
>>> is_row(hall, (2, 1)), is_row(hall, (2, 2)), is_row(hall, (5,)), is_row(hall, [2, 1]), is_order(hall, (2, 1)), is_order(hall, (4, 3, 2, 1, 0)), is_order((3, ()), ())
(True, False, False, False, False, True, True)
>>> next_seat(hall, (2, 1), 1)
raises CanNot()
>>> next_seat(hall, (2, 1), 5)
raises NoGuest(guest=5)
>>> outcome_of(hall, (0, 1, 2))
raises Unfit()
'''

HALL = (5, ((0, 1), (2, 1), (2, 0), (3, 1), (1, 3)))


class Examples(unittest.TestCase):
    def test_examples(self):
        check_examples(self, {**vars(errors), **vars(runs)}, EXAMPLES)


class Rows(unittest.TestCase):
    def test_each_tuple_of_small_numbers(self):
        for count in range(4):
            web = (2, ((0, 1),) * count)
            for long in range(count + 2):
                for thing in product(range(-1, count + 1), repeat=long):
                    good = all(guest in range(count) for guest in thing) and len({*thing}) == long
                    self.assertIs(is_row(web, thing), good)
                    self.assertIs(is_order(web, thing), good and long == count)

    def test_nobody_and_all(self):
        self.assertIs(is_row(HALL, ()), True)
        self.assertIs(is_order(HALL, ()), False)
        self.assertIs(is_row((1, ()), ()), True)
        self.assertIs(is_row(HALL, (4, 0, 3, 1, 2)), True)
        self.assertIs(is_order(HALL, (4, 0, 3, 1, 2)), True)

    def test_no_rows(self):
        things = NOTHING_AT_ALL + ([], [0], (0, 0), (5,), (-1,), (0, True), (False, 1), (0, 1, 2, 3, 4, 0), (0, [1]))
        for k, thing in enumerate(things):
            with self.subTest(k):
                self.assertIs(is_row(HALL, thing), False)
                self.assertIs(is_order(HALL, thing), False)

    def test_great_things(self):
        self.assertIs(is_row(HALL, tuple(range(10 ** 5))), False)
        self.assertIs(is_row((2, ((0, 1),) * 1000), tuple(range(1000))), True)
        self.assertIs(is_row(HALL, (10 ** 30,)), False)

    def test_no_web_whatever_thing_is(self):
        for web, thing, told in product(NO_WEBS, ((), (0,), None), (is_row, is_order)):
            with self.assertRaises(Unfit):
                told(web, thing)


class Seats(unittest.TestCase):
    def check_row(self, web, row):
        told = seats_by_hand(web, row)
        taking = dict(told)
        taken = [place for _, place in told if place is not None]
        self.assertEqual(seated(web, row), tuple(taking.get(guest) for guest in range(len(web[1]))))
        self.assertEqual(free_places(web, row), tuple(place for place in range(web[0]) if place not in taken))
        self.assertEqual(without_of(web, row), tuple(sorted(guest for guest, place in told if place is None)))
        pleased = tuple(sorted(guest for guest, place in told if place == web[1][guest][0]))
        self.assertEqual((pleased_of(web, row), found_gone(web, row)), (pleased, len(row) - len(pleased)))
        parts = [[place for _, place in told[:come] if place is not None] for come in range(len(row) + 1)]
        self.assertEqual(moments(web, row), tuple(tuple(sorted(part)) for part in parts))

    def check_next(self, web, row):
        for guest in range(len(web[1])):
            if guest in row:
                with self.assertRaises(CanNot):
                    next_seat(web, row, guest)
            else:
                self.assertEqual(next_seat(web, row, guest), seats_by_hand(web, row + (guest,))[-1][1])

    def test_small_webs_and_rows(self):
        for web in small_webs():
            for row in rows_of(web):
                self.check_row(web, row)
                self.check_next(web, row)

    def test_hall(self):
        for row in rows_of(HALL):
            self.check_row(HALL, row)
            self.check_next(HALL, row)

    def test_outcomes(self):
        for web in list(small_webs()) + [HALL]:
            for order in orders_of(web):
                self.assertEqual(outcome_of(web, order), tuple(place for _, place in sorted(seats_by_hand(web, order))))

    def test_nobody(self):
        for web in ((1, ()), (3, ()), HALL, (40, ((0, 1),) * 40)):
            many, guests = web
            self.assertEqual((seated(web, ()), moments(web, ())), ((None,) * len(guests), ((),)))
            self.assertEqual(free_places(web, ()), tuple(range(many)))
            self.assertEqual((without_of(web, ()), pleased_of(web, ()), found_gone(web, ())), ((), (), 0))
        self.assertEqual(outcome_of((3, ()), ()), ())

    def test_forty(self):
        web = (40, tuple((k, k + 1) for k in range(39)) + ((0, 39),))
        row = (39,) + tuple(range(39))
        self.assertEqual(outcome_of(web, row), tuple(range(1, 40)) + (0,))
        self.assertEqual((free_places(web, row), pleased_of(web, row), found_gone(web, row)), ((), (39,), 39))
        self.assertEqual(moments(web, row), tuple(tuple(range(k)) for k in range(41)))
        crowd, all_of_it = (2, ((1, 0),) * 40), tuple(range(39, -1, -1))
        self.assertEqual((without_of(crowd, all_of_it), found_gone(crowd, all_of_it)), (tuple(range(38)), 39))
        self.assertEqual(outcome_of(crowd, all_of_it), (None,) * 38 + (0, 1))
        self.assertEqual(moments(crowd, all_of_it), ((), (1,)) + ((0, 1),) * 39)

    def test_not_each_row_is_an_order(self):
        for order in ((), (0,), (0, 1, 2, 3), (0, 1, 2, 3, 3), (0, 1, 2, 3, 5), (0, 1, 2, 3, 4, 0)):
            with self.subTest(order), self.assertRaises(Unfit):
                outcome_of(HALL, order)


class Guarantees(unittest.TestCase):
    def test_nobody_moves_later(self):
        for web in small_webs():
            for row in rows_of(web):
                whole = seated(web, row)
                for come in range(len(row)):
                    part = seated(web, row[:come])
                    self.assertEqual([part[guest] for guest in row[:come]], [whole[guest] for guest in row[:come]])
                    self.assertEqual({part[guest] for guest in row[come:]}, {None})

    def test_moments_grow_by_one_place_or_stay(self):
        for web in small_webs():
            for row in rows_of(web):
                told = moments(web, row)
                self.assertEqual((len(told), told[0]), (len(row) + 1, ()))
                for now, then in zip(told, told[1:]):
                    self.assertLessEqual(set(now), set(then))
                    self.assertLessEqual(len(then) - len(now), 1)

    def test_without_exactly_if_both_ends_are_taken(self):
        for web in small_webs():
            for row in rows_of(web):
                told, lot = moments(web, row), without_of(web, row)
                for come, guest in enumerate(row):
                    self.assertEqual(guest in lot, set(web[1][guest]) <= set(told[come]))

    def test_what_stays_free_is_unwanted(self):
        for web in small_webs():
            for order in orders_of(web):
                outcome = outcome_of(web, order)
                for place in free_places(web, order):
                    for guest, (wish, other) in enumerate(web[1]):
                        self.assertNotEqual(wish, place)
                        if other == place:
                            self.assertEqual(outcome[guest], wish)


class Refusals(unittest.TestCase):
    def test_next_seat_tells_no_guest_ahead_of_can_not(self):
        for guest in (5, -1, 10 ** 6):
            with self.subTest(guest), self.assertRaises(NoGuest) as caught:
                next_seat(HALL, (0, 1), guest)
            self.assertEqual(caught.exception.guest, guest)

    def test_next_seat_of_one_of_the_row(self):
        for guest in range(5):
            with self.subTest(guest), self.assertRaises(CanNot):
                next_seat(HALL, (4, 3, 2, 1, 0), guest)


if __name__ == "__main__":
    unittest.main()
