"""[14], numbered.py: the ORDERS of an OUTCOME by number, and from one of them to another."""

import unittest
from itertools import product
from math import factorial

from examples import check_examples
from small import NO_NUMBERS, few_webs, great_webs, orders_by_outcome, orders_of, outcome_by_hand, small_webs, takings_of

from leftwithout import errors, numbered
from leftwithout.errors import CanNot, TooMany, Unfit
from leftwithout.numbered import (
    all_orders, greatest_order, least_order, next_order, order_ahead, order_at, order_number, step_to,
)
from leftwithout.orders import how_many_orders
from leftwithout.rings import exchanges

EXAMPLES = r'''
>>> hall, all_in = (5, ((0, 1), (0, 2), (1, 3), (2, 4))), (0, 2, 1, 4)
>>> all_orders(hall, all_in)
[(0, 1, 2, 3), (0, 1, 3, 2), (0, 2, 1, 3), (2, 0, 1, 3)]
>>> order_at(hall, all_in, 2), order_number(hall, all_in, (2, 0, 1, 3)), next_order(hall, all_in, (0, 1, 3, 2)), order_ahead(hall, all_in, (2, 0, 1, 3))
((0, 2, 1, 3), 3, (0, 2, 1, 3), (0, 2, 1, 3))
>>> least_order(hall, all_in), greatest_order(hall, all_in), step_to(hall, all_in, (0, 1, 3, 2), (2, 0, 1, 3))
((0, 1, 2, 3), (2, 0, 1, 3), (0, 1, 2, 3))
>>> pair, one_out = (4, ((0, 1), (0, 1), (1, 2), (2, 3))), (0, None, 1, 2)
>>> order_at(pair, one_out, 5), order_number(pair, one_out, (3, 2, 0, 1)), all_orders((3, ()), ())
((2, 3, 0, 1), 7, [()])
>>> many = (40, tuple([(k, k + 1) for k in range(39)]))
>>> order_at(many, tuple(range(39)), 20397882081197443358640281739902897356799999999) == tuple(range(38, -1, -1)), order_number(many, tuple(range(39)), tuple(range(39)))
(True, 0)
>>> order_at(hall, all_in, 4)
raises CanNot()
>>> order_number(hall, all_in, (1, 0, 2, 3))
raises CanNot()
'''

HALL, ALL_IN = (5, ((0, 1), (0, 2), (1, 3), (2, 4))), (0, 2, 1, 4)
WITH_ORDER = (order_number, next_order, order_ahead)
NO_ORDER_OF_HALL = (None, 0, "0123", (), (0, 1, 2), (0, 1, 2, 2), (0, 1, 2, 4), (0, True, 2, 3), [0, 1, 2], (0, 1, 2, 3, 4))


def crowd_of(count):
    """So many GUESTS, the third one WITHOUT behind the first two, and their OUTCOME."""
    guests = ((0, 1), (1, 0), (0, 1)) + tuple((2 + k, 39) for k in range(count - 3))
    return (40, guests), (0, 1, None) + tuple(range(2, count - 1))


def apart(count):
    """So many GUESTS who never meet, each with its wanted PLACE."""
    return (2 * count, tuple((k, count + k) for k in range(count))), tuple(range(count))


def webs_and_outcomes(webs):
    for web in webs:
        for outcome, orders in orders_by_outcome(web).items():
            yield web, outcome, orders


def exchanged(order):
    """The ORDERS behind one exchange of two neighbours, that at the first place first."""
    return [order[:k] + (order[k + 1], order[k]) + order[k + 2:] for k in range(len(order) - 1)]


def steps_through(orders, goal):
    """How many exchanges of neighbours, through these ORDERS alone, lead from each to the goal."""
    far, ahead = {goal: 0}, [goal]
    for order in ahead:
        for later in exchanged(order):
            if later in orders and later not in far:
                far[later] = far[order] + 1
                ahead.append(later)
    return far


class Examples(unittest.TestCase):
    def test_examples(self):
        check_examples(self, {**vars(errors), **vars(numbered)}, EXAMPLES)


class ByAllOrders(unittest.TestCase):
    """The answers beside all ORDERS of small WEBS, run one after another."""

    webs = few_webs(4, 3) + few_webs(3, 4) + tuple(small_webs()) + ((2, ((0, 1),) * 5), (6, ((0, 1), (1, 2), (3, 4), (4, 5), (0, 5))))

    def test_all_orders(self):
        for web, outcome, orders in webs_and_outcomes(self.webs + few_webs()):
            told = all_orders(web, outcome)
            self.assertIsInstance(told, list)
            self.assertEqual(tuple(told), orders)
            self.assertEqual((least_order(web, outcome), greatest_order(web, outcome)), (orders[0], orders[-1]))

    def test_order_at_and_order_number(self):
        for web, outcome, orders in webs_and_outcomes(self.webs):
            for number, order in enumerate(orders):
                self.assertEqual(order_at(web, outcome, number), order)
                self.assertEqual(order_number(web, outcome, order), number)
            for number in (len(orders), len(orders) + 1, 10 ** 6, 10 ** 48):
                self.assertRaises(CanNot, order_at, web, outcome, number)

    def test_next_order_and_order_ahead(self):
        for web, outcome, orders in webs_and_outcomes(self.webs):
            for order, later in zip(orders, orders[1:]):
                self.assertEqual(next_order(web, outcome, order), later)
                self.assertEqual(order_ahead(web, outcome, later), order)
            self.assertRaises(CanNot, next_order, web, outcome, orders[-1])
            self.assertRaises(CanNot, order_ahead, web, outcome, orders[0])

    def test_orders_that_lead_to_another_outcome(self):
        for web, outcome, orders in webs_and_outcomes(tuple(small_webs())):
            for order in {*orders_of(web)} - {*orders}:
                for told in WITH_ORDER:
                    self.assertRaises(CanNot, told, web, outcome, order)
                self.assertRaises(CanNot, step_to, web, outcome, order, orders[0])
                self.assertRaises(CanNot, step_to, web, outcome, orders[0], order)
                self.assertRaises(CanNot, step_to, web, outcome, order, order)

    def test_step_to(self):
        for web, outcome, orders in webs_and_outcomes(few_webs(4, 3) + few_webs(3, 4)):
            for goal in orders:
                far = steps_through({*orders}, goal)
                self.assertEqual(len(far), len(orders))
                self.assertRaises(CanNot, step_to, web, outcome, goal, goal)
                for order in orders:
                    self.assertEqual(far[order], exchanges(web, order, goal))
                    if order != goal:
                        told = [own for own in exchanged(order) if far.get(own, 99) == far[order] - 1]
                        self.assertEqual(step_to(web, outcome, order, goal), told[0])


class GreatWebs(unittest.TestCase):
    def check_there_and_back(self, web, outcome):
        count = how_many_orders(web, outcome)
        for number in (0, count // 3, count // 2, count - 1):
            order = order_at(web, outcome, number)
            self.assertEqual(outcome_by_hand(web, order), outcome)
            self.assertEqual(order_number(web, outcome, order), number)
            if number + 1 < count:
                self.assertEqual(next_order(web, outcome, order), order_at(web, outcome, number + 1))
                self.assertEqual(order_ahead(web, outcome, order_at(web, outcome, number + 1)), order)
        self.assertEqual(order_at(web, outcome, 0), least_order(web, outcome))
        self.assertEqual(order_at(web, outcome, count - 1), greatest_order(web, outcome))
        self.assertRaises(CanNot, order_at, web, outcome, count)

    def test_numbers_of_great_webs(self):
        seen = 0
        for web in great_webs(60, 40, 34):
            outcome = outcome_by_hand(web, tuple(range(len(web[1]))))
            if None not in outcome:
                seen += 1
                self.check_there_and_back(web, outcome)
        self.assertGreater(seen, 10)

    def test_numbers_with_somebody_without(self):
        for web in great_webs(8, 8, 11):
            self.check_there_and_back(web, outcome_by_hand(web, tuple(range(len(web[1])))))
        self.check_there_and_back(*crowd_of(14))

    def test_steps_through_great_webs(self):
        for web in great_webs(10):
            outcome = outcome_by_hand(web, tuple(range(len(web[1]))))
            order, goal = least_order(web, outcome), greatest_order(web, outcome)
            far = exchanges(web, order, goal)
            while order != goal:
                later = step_to(web, outcome, order, goal)
                self.assertIn(later, exchanged(order))
                self.assertEqual((outcome_by_hand(web, later), exchanges(web, later, goal)), (outcome, far - 1))
                order, far = later, far - 1
            self.assertEqual(far, 0)


class Bounds(unittest.TestCase):
    def test_forty(self):
        web, outcome = apart(40)
        everybody = tuple(range(40))
        self.assertEqual(order_at(web, outcome, factorial(40) - 1), everybody[::-1])
        self.assertEqual(order_number(web, outcome, everybody[::-1]), factorial(40) - 1)
        self.assertEqual(order_at(web, outcome, factorial(39)), (1, 0) + everybody[2:])
        self.assertRaises(CanNot, order_at, web, outcome, factorial(40))
        self.assertRaises(CanNot, order_at, web, outcome, 10 ** 48)
        self.assertEqual(next_order(web, outcome, everybody), everybody[:38] + (39, 38))
        self.assertEqual(order_ahead(web, outcome, everybody[::-1]), everybody[:1:-1] + (0, 1))

    def test_two_thousand_are_listed(self):
        web = (5, ((1, 0), (1, 3), (0, 2), (1, 0), (0, 2), (1, 4), (2, 1), (4, 2), (0, 4)))
        told = all_orders(web, (1, 3, 0, None, 2, 4, None, None, None))
        self.assertEqual((len(told), told), (2000, sorted({*told})))
        self.assertEqual({outcome_by_hand(web, order) for order in told}, {(1, 3, 0, None, 2, 4, None, None, None)})

    def test_one_more_is_too_many(self):
        web = (6, ((1, 2), (1, 2), (2, 5), (1, 2), (5, 3), (3, 2), (4, 5), (4, 0), (5, 0), (4, 1)))
        outcome = (1, 2, 5, None, 3, None, 4, 0, None, None)
        self.assertEqual(how_many_orders(web, outcome), 2001)
        self.assertRaises(TooMany, all_orders, web, outcome)
        self.assertEqual(order_at(web, outcome, 2000), greatest_order(web, outcome))

    def test_listed_and_too_many_with_nobody_without(self):
        three = ((0, 1), (0, 2), (0, 3)) + tuple((k, k + 6) for k in range(4, 8))
        self.assertEqual(len(all_orders((14, three), (0, 2, 3, 4, 5, 6, 7))), 1680)
        two = ((0, 1), (0, 2)) + tuple((k, k + 6) for k in range(3, 8))
        self.assertRaises(TooMany, all_orders, (14, two), (0, 2, 3, 4, 5, 6, 7))

    def test_fifteen_with_somebody_without(self):
        web, outcome = crowd_of(15)
        everybody = tuple(range(15))
        self.assertRaises(TooMany, order_at, web, outcome, 0)
        self.assertRaises(TooMany, all_orders, web, outcome)
        self.assertRaises(TooMany, order_number, web, outcome, everybody)
        # Ahead of CanNot: these lead to another OUTCOME, or are too great.
        self.assertRaises(TooMany, order_number, web, outcome, everybody[::-1])
        self.assertRaises(TooMany, order_at, web, outcome, 10 ** 48)
        # Never in these.
        greatest = tuple(range(14, 2, -1)) + (1, 0, 2)
        self.assertEqual((least_order(web, outcome), greatest_order(web, outcome)), (everybody, greatest))
        self.assertEqual(next_order(web, outcome, everybody), everybody[:13] + (14, 13))
        self.assertEqual(order_ahead(web, outcome, everybody[:13] + (14, 13)), everybody)
        self.assertEqual(step_to(web, outcome, everybody, greatest), (1, 0) + everybody[2:])
        self.assertRaises(CanNot, next_order, web, outcome, greatest)
        self.assertRaises(CanNot, next_order, web, outcome, everybody[::-1])

    def test_fourteen_with_somebody_without(self):
        web, outcome = crowd_of(14)
        self.assertEqual(order_at(web, outcome, 0), tuple(range(14)))
        self.assertRaises(TooMany, all_orders, web, outcome)
        self.assertRaises(CanNot, order_at, web, outcome, factorial(14) // 3)

    def test_fifteen_with_few_orders_are_too_many_to_list_if_somebody_is_without(self):
        # In one line but for the one WITHOUT at its beginning.
        web = (16, ((0, 1), (0, 1), (0, 1)) + tuple((k, k + 1) for k in range(1, 13)))
        outcome = (0, 1, None) + tuple(range(2, 14))
        self.assertEqual(outcome_by_hand(web, tuple(range(15))), outcome)
        self.assertRaises(TooMany, all_orders, web, outcome)
        self.assertEqual(least_order(web, outcome), tuple(range(15)))
        self.assertEqual(greatest_order(web, outcome), (0, 1) + tuple(range(3, 15)) + (2,))

    def test_nobody_and_one(self):
        for web in ((1, ()), (40, ())):
            self.assertEqual((order_at(web, (), 0), order_number(web, (), ()), all_orders(web, ())), ((), 0, [()]))
            self.assertEqual((least_order(web, ()), greatest_order(web, ())), ((), ()))
            for told in (next_order, order_ahead):
                self.assertRaises(CanNot, told, web, (), ())
            self.assertRaises(CanNot, step_to, web, (), (), ())
            self.assertRaises(CanNot, order_at, web, (), 1)
        self.assertEqual(all_orders((2, ((1, 0),)), (1,)), [(0,)])


class Refusals(unittest.TestCase):
    def test_no_number_from_0(self):
        for number in NO_NUMBERS + (-1, -4, -10 ** 6):
            self.assertRaises(Unfit, order_at, HALL, ALL_IN, number)

    def test_no_orders(self):
        for order in NO_ORDER_OF_HALL:
            for told in WITH_ORDER:
                self.assertRaises(Unfit, told, HALL, ALL_IN, order)
            # Ahead of what is wrong with the other one.
            for other in ((0, 1, 2, 3), (1, 0, 2, 3), ()):
                self.assertRaises(Unfit, step_to, HALL, ALL_IN, order, other)
                self.assertRaises(Unfit, step_to, HALL, ALL_IN, other, order)

    def test_no_outcomes(self):
        for web in few_webs(3, 2):
            order = tuple(range(len(web[1])))
            for taking in takings_of(web):
                if taking not in orders_by_outcome(web):
                    for told in (all_orders, least_order, greatest_order):
                        self.assertRaises(Unfit, told, web, taking)
                    for told in WITH_ORDER:
                        self.assertRaises(Unfit, told, web, taking, order)
                    self.assertRaises(Unfit, order_at, web, taking, 0)
                    self.assertRaises(Unfit, step_to, web, taking, order, order)

    def test_unfit_ahead_of_too_many(self):
        web, outcome = crowd_of(15)
        self.assertRaises(Unfit, order_at, web, outcome, -1)
        self.assertRaises(Unfit, order_number, web, outcome, ())
        self.assertRaises(Unfit, all_orders, web, (None,) * 15)

    def test_lists_are_new(self):
        told = all_orders(HALL, ALL_IN)
        told.append(None)
        self.assertEqual(len(all_orders(HALL, ALL_IN)), 4)

    def test_each_pair_of_orders_of_an_outcome_is_a_step(self):
        orders = all_orders(HALL, ALL_IN)
        for order, goal in product(orders, repeat=2):
            if order != goal:
                self.assertIn(step_to(HALL, ALL_IN, order, goal), orders)


if __name__ == "__main__":
    unittest.main()
