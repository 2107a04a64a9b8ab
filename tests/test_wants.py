"""[23], wants.py: WANTS that fit what was taken, who is told, DRAINS, ORDERS that tell the most."""

import unittest
from itertools import combinations, product

from examples import check_examples
from small import (
    NO_ORDERS, NO_ROWS, NO_WANTS, NO_WEBS, NOTHING_AT_ALL, as_lists, few_webs, great_webs, orders_of, outcome_by_hand,
    rows_of, seats_by_hand, takings_of, wanting_by_hand, wants_of,
)

from leftwithout import errors, wants as of_wants
from leftwithout.errors import CanNot, Unfit
from leftwithout.wants import (
    can_be_seen, drains, how_many_wants, is_telling, is_wants, most_told, sure_wants, telling_order, told_by, wants_fit,
    with_wants,
)

EXAMPLES = r'''
>>> path, hoop = (4, ((1, 0), (1, 2), (2, 3))), (3, ((0, 1), (1, 2), (2, 0)))
>>> sure_wants(path, (0, 1, 2), (1, 2, 3)), how_many_wants(path, (0, 1, 2), (1, 2, 3)), sure_wants(path, (2, 0), (0, None, 2))
((0, None, None), 4, (1, None, 0))
>>> [wants_fit(path, (0, 1, 2), (1, 2, 3), own) for own in ((0, 0, 0), (0, 1, 1), (1, 0, 0))], with_wants(path, (1, 0, 1))
([True, True, False], (4, ((0, 1), (1, 2), (3, 2))))
>>> told_by(path, (0, 1, 2)), told_by(path, (2, 1, 0)), told_by(path, (1, 0)), can_be_seen(path, (0, 1), (1, None, None)), how_many_wants(path, (), (None, None, None))
((0,), (2,), (1,), False, 8)
>>> drains(path), most_told(path), drains(hoop), most_told(hoop), drains((2, ())), most_told((5, ((0, 1), (1, 0), (2, 1), (3, 4))))
([(0,), (3,)], 2, [(0, 1, 2)], 2, [(0,), (1,)], 3)
>>> is_telling(path, (2, 0, 1)), is_telling(path, (0, 1, 2)), is_telling(path, telling_order(path)), is_wants(path, (0, 1, True))
(True, False, True, False)
>>> sure_wants(path, (0, 1), (1, 1, None))
raises Unfit()
>>> sure_wants(path, (0, 1), (1, None, None))
raises CanNot()
'''

HALL = (5, ((0, 1), (2, 1), (2, 0), (3, 1), (1, 3)))
OF_A_TAKING = (can_be_seen, how_many_wants, sure_wants)


def seating(web, row):
    """The TAKING behind the ROW."""
    told = dict(seats_by_hand(web, row))
    return tuple(told.get(guest) for guest in range(len(web[1])))


def rows_and_takings(webs):
    """Each ROW of the WEBS with each TAKING in which all others have None, and all WANTS that fit both."""
    for web in webs:
        for row in rows_of(web):
            fitting = {}
            for wants in wants_of(web):
                fitting.setdefault(seating(wanting_by_hand(web, wants), row), []).append(wants)
            for taking in takings_of(web):
                if all(place is None or guest in row for guest, place in enumerate(taking)):
                    yield web, row, taking, fitting.get(taking, [])


def told_by_hand(web, row):
    """Who finds both its PLACES free, one by one."""
    found, taken = [], []
    for guest, place in seats_by_hand(web, row):
        if not {*web[1][guest]} & {*taken}:
            found.append(guest)
        taken.append(place)
    return tuple(sorted(found))


def drains_by_hand(web):
    """All sets of PLACES from each of which STEPS lead to just the set."""
    reach = [{place} for place in range(web[0])]
    for _ in range(web[0]):
        for wish, other in web[1]:
            for own in reach:
                if wish in own:
                    own.add(other)
    sets = [some for long in range(1, web[0] + 1) for some in combinations(range(web[0]), long)]
    return sorted(some for some in sets if all(reach[place] == {*some} for place in some))


class Examples(unittest.TestCase):
    def test_examples(self):
        check_examples(self, {**vars(errors), **vars(of_wants)}, EXAMPLES)


class ByAllWants(unittest.TestCase):
    """The answers beside all WANTS of small WEBS, each ROW run with one after another."""

    webs = few_webs(3, 3) + few_webs(4, 3)[::3] + few_webs(3, 4)[::25] + few_webs(4, 4)[::150]

    def test_wants_that_fit(self):
        for web, row, taking, fitting in rows_and_takings(self.webs):
            self.assertIs(can_be_seen(web, row, taking), fitting != [])
            self.assertEqual(how_many_wants(web, row, taking), len(fitting))
            if fitting:
                sure = tuple(own[0] if len({*own}) == 1 else None for own in zip(*fitting))
                self.assertEqual(repr(sure_wants(web, row, taking)), repr(sure))
                self.assertIn(len(fitting), [2 ** count for count in range(5)])
            else:
                self.assertRaises(CanNot, sure_wants, web, row, taking)

    def test_wants_fit(self):
        for web, row, taking, fitting in rows_and_takings(few_webs(3, 3)):
            for wants in wants_of(web):
                self.assertIs(wants_fit(web, row, taking, wants), wants in fitting)

    def test_who_is_told_hangs_on_row_and_taking(self):
        for web, row, taking, fitting in rows_and_takings(few_webs(3, 3) + few_webs(4, 3)[::7]):
            if fitting:
                told = tuple(guest for guest, own in enumerate(sure_wants(web, row, taking)) if own is not None)
                for wants in fitting:
                    self.assertEqual(told_by(with_wants(web, wants), row), told)
                self.assertEqual(len(fitting), 2 ** (len(web[1]) - len(told)))

    def test_told_by(self):
        for web in few_webs(4, 3) + few_webs(3, 4):
            for row in rows_of(web):
                self.assertEqual(told_by(web, row), told_by_hand(web, row))

    def test_with_wants(self):
        for web in few_webs(4, 3):
            for wants in wants_of(web):
                self.assertEqual(with_wants(web, wants), wanting_by_hand(web, wants))
                self.assertEqual(with_wants(with_wants(web, wants), wants), web)

    def test_is_wants(self):
        for web in few_webs(2, 3):
            for long in range(6):
                for thing in product((-1, 0, 1, 2, None), repeat=long):
                    self.assertIs(is_wants(web, thing), thing in {*wants_of(web)})


class ByAllOrders(unittest.TestCase):
    webs = few_webs(4, 4) + few_webs(3, 5)

    def test_drains(self):
        for web in [*self.webs, *great_webs(40, 8, 12)]:
            told = drains(web)
            self.assertIsInstance(told, list)
            self.assertEqual(told, drains_by_hand(web))

    def test_most_told(self):
        for web in self.webs:
            told = max(len(told_by_hand(web, order)) for order in orders_of(web))
            self.assertEqual((most_told(web), web[0] - len(drains_by_hand(web))), (told, told))

    def test_telling_order(self):
        for web in [*self.webs, *great_webs(100, 12, 20), *great_webs()]:
            order = telling_order(web)
            self.assertEqual(sorted(order), list(range(len(web[1]))))
            self.assertEqual(len(told_by_hand(web, order)), most_told(web))
            self.assertIs(is_telling(web, order), True)
            self.assertEqual(most_told(web), web[0] - len(drains(web)))

    def test_is_telling(self):
        for web in few_webs(4, 3) + few_webs(3, 4):
            for order in orders_of(web):
                self.assertIs(is_telling(web, order), len(told_by_hand(web, order)) == most_told(web))

    def test_no_order_of_great_webs_tells_more(self):
        for web in great_webs():
            everybody = tuple(range(len(web[1])))
            for order in (everybody, everybody[::-1], everybody[::2] + everybody[1::2]):
                self.assertEqual(told_by(web, order), told_by_hand(web, order))
                self.assertLessEqual(len(told_by(web, order)), most_told(web))


class Bounds(unittest.TestCase):
    def test_forty(self):
        circle = (40, tuple((k, (k + 1) % 40) for k in range(40)))
        everybody = tuple(range(40))
        self.assertEqual((drains(circle), most_told(circle)), ([everybody], 39))
        self.assertEqual(told_by(circle, everybody), everybody[:39])
        self.assertEqual(how_many_wants(circle, (), (None,) * 40), 2 ** 40)
        self.assertEqual(how_many_wants(circle, everybody, everybody), 2)
        self.assertEqual(sure_wants(circle, everybody, everybody), (0,) * 39 + (None,))
        away = everybody[1:] + (0,)
        self.assertEqual(sure_wants(circle, everybody, away), (1,) + (None,) * 39)
        self.assertEqual(how_many_wants(circle, everybody, away), 2 ** 39)
        for web in great_webs(20):
            row = tuple(range(0, len(web[1]), 2))
            taking = seating(web, row)
            untold = len(web[1]) - len(told_by_hand(web, row))
            self.assertEqual(how_many_wants(web, row, taking), 2 ** untold)
            sure = sure_wants(web, row, taking)
            self.assertEqual((sure.count(0), sure.count(None)), (len(web[1]) - untold, untold))
            self.assertIs(wants_fit(web, row, taking, tuple(own or 0 for own in sure)), True)

    def test_nobody_and_one(self):
        for many in (1, 2, 40):
            web = (many, ())
            self.assertEqual((drains(web), most_told(web)), ([(place,) for place in range(many)], 0))
            self.assertEqual((telling_order(web), is_telling(web, ()), told_by(web, ())), ((), True, ()))
            self.assertEqual((how_many_wants(web, (), ()), sure_wants(web, (), ()), with_wants(web, ())), (1, (), web))
            self.assertIs(wants_fit(web, (), (), ()), True)
        web = (2, ((1, 0),))
        self.assertEqual((sure_wants(web, (0,), (0,)), sure_wants(web, (0,), (1,)), sure_wants(web, (), (None,))), ((1,), (0,), (None,)))
        self.assertRaises(CanNot, sure_wants, web, (0,), (None,))
        self.assertEqual((how_many_wants(web, (0,), (None,)), can_be_seen(web, (0,), (None,))), (0, False))


class Refusals(unittest.TestCase):
    row, taking, wants = (2, 1), (None, 1, 2, None, None), (0, 1, 0, 0, 1)

    def test_no_webs(self):
        for wrong in NO_WEBS:
            for told in (drains, most_told, telling_order):
                self.assertRaises(Unfit, told, wrong)
            for thing in ((), None):
                self.assertRaises(Unfit, is_wants, wrong, thing)
                self.assertRaises(Unfit, is_telling, wrong, thing)
            self.assertRaises(Unfit, with_wants, wrong, ())
            self.assertRaises(Unfit, told_by, wrong, ())
            self.assertRaises(Unfit, wants_fit, wrong, (), (), ())
            for told in OF_A_TAKING:
                self.assertRaises(Unfit, told, wrong, (), ())

    def test_no_rows(self):
        for wrong in NO_ROWS:
            self.assertRaises(Unfit, told_by, HALL, wrong)
            self.assertRaises(Unfit, wants_fit, HALL, wrong, self.taking, self.wants)
            for told in OF_A_TAKING:
                self.assertRaises(Unfit, told, HALL, wrong, self.taking)

    def test_no_takings_of_the_row(self):
        for wrong in NOTHING_AT_ALL + (
            (), (None,) * 4, (0, None, 2, None, None), (None, 1, 2, 3, None), (None, 2, 2, None, None), (None, 0, 2, None, None),
            [None, True, 2, None, None], (None, None, None, None, 1),
        ):
            self.assertRaises(Unfit, wants_fit, HALL, self.row, wrong, self.wants)
            for told in OF_A_TAKING:
                self.assertRaises(Unfit, told, HALL, self.row, wrong)

    def test_no_wants(self):
        self.assertIs(is_wants(HALL, self.wants), True)
        for k, wrong in enumerate(NO_WANTS):
            with self.subTest(k):
                self.assertIs(is_wants(HALL, wrong), False)
                self.assertRaises(Unfit, with_wants, HALL, wrong)
                self.assertRaises(Unfit, wants_fit, HALL, self.row, self.taking, wrong)
        self.assertIs(is_wants(HALL, [0, 1, 0, 0, 1]), False)

    def test_no_orders(self):
        self.assertIs(is_telling(HALL, telling_order(HALL)), True)
        for k, thing in enumerate(NO_ORDERS + (list(telling_order(HALL)),)):
            with self.subTest(k):
                self.assertIs(is_telling(HALL, thing), False)

    def test_unfit_ahead_of_can_not(self):
        self.assertRaises(CanNot, sure_wants, HALL, (2, 1), (None, None, 2, None, None))
        self.assertRaises(Unfit, sure_wants, HALL, (2, 1), (None, None, 2, None, 1))

    def test_lists(self):
        self.assertEqual(sure_wants(as_lists(HALL), [2, 1], [None, 1, 2, None, None]), (None, None, 0, None, None))
        self.assertEqual(with_wants(as_lists(HALL), [0, 1, 0, 0, 1]), with_wants(HALL, self.wants))
        told = drains(HALL)
        told.append(None)
        self.assertEqual(len(drains(HALL)), len(told) - 1)
        self.assertEqual(outcome_by_hand(HALL, (2, 1, 0, 3, 4))[2], 2)


if __name__ == "__main__":
    unittest.main()
