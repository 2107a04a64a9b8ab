"""[13], orders.py: how many ORDERS an OUTCOME has, and who can come where in them."""

import unittest
from itertools import product
from math import factorial, prod

from examples import check_examples
from small import (
    NO_NUMBERS, arrows_by_hand, few_webs, great_webs, orders_by_outcome, outcome_by_hand, small_webs, takings_of,
)

from leftwithout import errors, orders as of_orders
from leftwithout.errors import CanNot, NoGuest, TooMany, Unfit
from leftwithout.orders import (
    can_come_first, can_come_last, fewest_ahead, how_many_ahead, how_many_first, how_many_last, how_many_orders, most_ahead,
    must_come_behind, sizes_of,
)

EXAMPLES = r'''
>>> hall, all_in = (5, ((0, 1), (0, 2), (1, 3), (2, 4))), (0, 2, 1, 4)
>>> sizes_of(hall, all_in), how_many_orders(hall, all_in), can_come_first(hall, all_in), can_come_last(hall, all_in)
((3, 2, 1, 1), 4, (0, 2), (2, 3))
>>> must_come_behind(hall, all_in, 0), must_come_behind(hall, all_in, 2), fewest_ahead(hall, all_in, 2), most_ahead(hall, all_in, 2)
((1, 3), (), 0, 3)
>>> [how_many_first(hall, all_in, own) for own in range(4)], [how_many_last(hall, all_in, own) for own in range(4)]
([3, 0, 1, 0], [0, 0, 1, 3])
>>> [how_many_ahead(hall, all_in, 2, own) for own in range(4)]
[1, 2, 0, 3]
>>> pair, one_out = (4, ((0, 1), (0, 1), (1, 2), (2, 3))), (0, None, 1, 2)
>>> how_many_orders(pair, one_out), can_come_first(pair, one_out), fewest_ahead(pair, one_out, 1), how_many_last(pair, one_out, 1), how_many_ahead(pair, one_out, 3, 1)
(8, (0, 2, 3), 2, 6, 6)
>>> wide = (20, tuple([(k // 2, 10 + k // 2) for k in range(20)]))
>>> how_many_orders(wide, tuple([k // 2 + 10 * (k % 2) for k in range(20)])), how_many_orders((1, ()), ()), sizes_of((1, ()), ())
(2375880867360000, 1, ())
>>> sizes_of(pair, one_out)
raises CanNot()
>>> how_many_first(hall, all_in, 4)
raises NoGuest(guest=4)
>>> how_many_orders(hall, (0, 2, 3, 4))
raises Unfit()
'''

HALL, ALL_IN = (5, ((0, 1), (0, 2), (1, 3), (2, 4))), (0, 2, 1, 4)
PAIR, ONE_OUT = (4, ((0, 1), (0, 1), (1, 2), (2, 3))), (0, None, 1, 2)
HOW_MANY = (how_many_first, how_many_last)


def crowd_of(count):
    """So many GUESTS, the first two at the two PLACES that the third one reaches for, the others apart."""
    return (40, ((0, 1), (1, 0), (0, 1)) + tuple((2 + k, 39) for k in range(count - 3)))


def outcome_of_crowd(count):
    return (0, 1, None) + tuple(range(2, count - 1))


def apart(count):
    """So many GUESTS who never meet, each with its wanted PLACE."""
    return (2 * count, tuple((k, count + k) for k in range(count))), tuple(range(count))


def webs_and_outcomes(webs):
    for web in webs:
        for outcome, orders in orders_by_outcome(web).items():
            yield web, outcome, orders


def sizes_by_hand(web, outcome):
    """How many GUESTS are reached from each along ARROWS, itself told, too."""
    arrows, found = arrows_by_hand(web, outcome), []
    for guest in range(len(outcome)):
        reached = {guest}
        for _ in outcome:
            reached |= {later for first, later in arrows if first in reached}
        found.append(len(reached))
    return tuple(found)


class Examples(unittest.TestCase):
    def test_examples(self):
        check_examples(self, {**vars(errors), **vars(of_orders)}, EXAMPLES)


class ByAllOrders(unittest.TestCase):
    """The answers beside all ORDERS of small WEBS, run one after another."""

    webs = few_webs() + few_webs(3, 5)

    def test_how_many_orders(self):
        for web, outcome, orders in webs_and_outcomes(self.webs):
            self.assertEqual(how_many_orders(web, outcome), len(orders))

    def test_sizes_of(self):
        for web, outcome, orders in webs_and_outcomes(self.webs):
            if None in outcome:
                self.assertRaises(CanNot, sizes_of, web, outcome)
            else:
                told = sizes_of(web, outcome)
                self.assertEqual(told, sizes_by_hand(web, outcome))
                self.assertEqual(len(orders) * prod(told), factorial(len(outcome)))

    def test_first_and_last(self):
        for web, outcome, orders in webs_and_outcomes(few_webs(4, 3) + few_webs(3, 4) + few_webs(2, 5)):
            firsts, lasts = [order[0] for order in orders if order], [order[-1] for order in orders if order]
            self.assertEqual(can_come_first(web, outcome), tuple(sorted({*firsts})))
            self.assertEqual(can_come_last(web, outcome), tuple(sorted({*lasts})))
            for guest in range(len(outcome)):
                self.assertEqual(how_many_first(web, outcome, guest), firsts.count(guest))
                self.assertEqual(how_many_last(web, outcome, guest), lasts.count(guest))

    def test_how_many_ahead(self):
        for web, outcome, orders in webs_and_outcomes(few_webs(4, 3) + few_webs(3, 4)):
            for guest, goal in product(range(len(outcome)), repeat=2):
                told = len([order for order in orders if order.index(guest) < order.index(goal)])
                self.assertEqual(how_many_ahead(web, outcome, guest, goal), told)

    def test_fewest_most_and_who_is_behind(self):
        for web, outcome, orders in webs_and_outcomes(few_webs(4, 3) + few_webs(3, 4) + tuple(small_webs())):
            for guest in range(len(outcome)):
                ahead = [order.index(guest) for order in orders]
                self.assertEqual(fewest_ahead(web, outcome, guest), min(ahead))
                self.assertEqual(most_ahead(web, outcome, guest), max(ahead))
                behind = [{*order[order.index(guest) + 1:]} for order in orders]
                self.assertEqual(must_come_behind(web, outcome, guest), tuple(sorted(set.intersection(*behind))))

    def test_four_places_and_four_guests_in_one_line(self):
        web, outcome = (5, ((0, 1), (0, 1), (1, 2), (2, 3))), (0, 1, 2, 3)
        self.assertEqual((how_many_orders(web, outcome), sizes_of(web, outcome)), (1, (4, 3, 2, 1)))
        self.assertEqual([fewest_ahead(web, outcome, own) for own in range(4)], [0, 1, 2, 3])
        self.assertEqual([most_ahead(web, outcome, own) for own in range(4)], [0, 1, 2, 3])


class Sums(unittest.TestCase):
    """What hangs together for any OUTCOME, on greater WEBS."""

    def check_sums(self, web, outcome):
        count, told = len(outcome), how_many_orders(web, outcome)
        if count:
            for how_many in HOW_MANY:
                self.assertEqual(sum(how_many(web, outcome, guest) for guest in range(count)), told)
        for guest in range(count):
            self.assertIs(how_many_first(web, outcome, guest) > 0, guest in can_come_first(web, outcome))
            self.assertIs(how_many_last(web, outcome, guest) > 0, guest in can_come_last(web, outcome))
            if None not in outcome and guest in can_come_first(web, outcome):
                size = sizes_of(web, outcome)[guest]
                self.assertEqual(how_many_first(web, outcome, guest) * count, told * size)

    def check_ahead(self, web, outcome):
        told = how_many_orders(web, outcome)
        for guest in range(len(outcome)):
            for goal in range(guest):
                one, two = how_many_ahead(web, outcome, guest, goal), how_many_ahead(web, outcome, goal, guest)
                self.assertEqual(one + two, told)
                self.assertIs(one == told, goal in must_come_behind(web, outcome, guest))

    def test_webs_of_nine_guests(self):
        for web in great_webs(12, 9, 9):
            everybody = tuple(range(len(web[1])))
            for order in (everybody, everybody[::-1]):
                outcome = outcome_by_hand(web, order)
                self.check_sums(web, outcome)
                self.check_ahead(web, outcome)

    def test_webs_of_seven_guests_by_all_orders(self):
        for web in great_webs(3, 7, 7):
            for outcome, orders in orders_by_outcome(web).items():
                self.assertEqual(how_many_orders(web, outcome), len(orders))
                for guest in range(len(outcome)):
                    self.assertEqual(how_many_first(web, outcome, guest), len([own for own in orders if own[0] == guest]))
                    self.assertEqual(how_many_last(web, outcome, guest), len([own for own in orders if own[-1] == guest]))

    def test_webs_of_forty(self):
        for web in great_webs(60, 40, 34):
            outcome = outcome_by_hand(web, tuple(range(len(web[1]))))
            if None not in outcome:
                self.check_sums(web, outcome)
                sizes = sizes_of(web, outcome)
                self.assertEqual(sizes, sizes_by_hand(web, outcome))
                self.assertEqual(how_many_orders(web, outcome) * prod(sizes), factorial(len(outcome)))

    def test_who_comes_where_among_forty(self):
        for web in great_webs(10):
            outcome = outcome_by_hand(web, tuple(range(len(web[1]))))
            arrows = arrows_by_hand(web, outcome)
            sizes = sizes_by_hand(web, outcome)
            for guest in range(len(outcome)):
                behind = must_come_behind(web, outcome, guest)
                self.assertEqual(len(behind), sizes[guest] - 1)
                self.assertEqual(most_ahead(web, outcome, guest), len(outcome) - sizes[guest])
                ahead = [own for own in range(len(outcome)) if guest in must_come_behind(web, outcome, own)]
                self.assertEqual(fewest_ahead(web, outcome, guest), len(ahead))
                self.assertIs(guest in can_come_first(web, outcome), ahead == [])
                self.assertIs(guest in can_come_last(web, outcome), behind == ())
                self.assertLessEqual({later for first, later in arrows if first == guest}, {*behind})


class Bounds(unittest.TestCase):
    def test_forty_apart(self):
        web, outcome = apart(40)
        self.assertEqual((how_many_orders(web, outcome), sizes_of(web, outcome)), (factorial(40), (1,) * 40))
        self.assertEqual((how_many_first(web, outcome, 39), how_many_last(web, outcome, 0)), (factorial(39),) * 2)
        self.assertEqual((fewest_ahead(web, outcome, 7), most_ahead(web, outcome, 7)), (0, 39))

    def test_forty_in_one_line(self):
        web = (41, ((0, 40),) + tuple((k, k + 1) for k in range(39)))
        outcome = tuple(range(40))
        self.assertEqual((how_many_orders(web, outcome), sizes_of(web, outcome)), (1, tuple(range(40, 0, -1))))
        self.assertEqual((can_come_first(web, outcome), can_come_last(web, outcome)), ((0,), (39,)))
        self.assertEqual([how_many_first(web, outcome, own) for own in (0, 1)], [1, 0])
        self.assertEqual([how_many_last(web, outcome, own) for own in (39, 38)], [1, 0])
        self.assertEqual(must_come_behind(web, outcome, 20), tuple(range(21, 40)))
        self.assertEqual((fewest_ahead(web, outcome, 20), most_ahead(web, outcome, 20)), (20, 20))

    def test_fourteen_are_counted_though_somebody_has_none(self):
        web, outcome = crowd_of(14), outcome_of_crowd(14)
        self.assertEqual(how_many_orders(web, outcome), factorial(14) // 3)
        self.assertEqual(how_many_first(web, outcome, 13), factorial(13) // 3)
        self.assertEqual(how_many_last(web, outcome, 2), factorial(13))
        self.assertEqual(how_many_ahead(web, outcome, 2, 13), factorial(14) // 12)

    def test_fifteen_are_too_many_if_somebody_has_none(self):
        web, outcome = crowd_of(15), outcome_of_crowd(15)
        self.assertRaises(TooMany, how_many_orders, web, outcome)
        for guest in (0, 2, 14):
            for how_many in HOW_MANY:
                self.assertRaises(TooMany, how_many, web, outcome, guest)
            self.assertRaises(TooMany, how_many_ahead, web, outcome, guest, 1)
        self.assertEqual((can_come_first(web, outcome), can_come_last(web, outcome))[0], (0, 1) + tuple(range(3, 15)))
        self.assertEqual(can_come_last(web, outcome), tuple(range(2, 15)))
        self.assertEqual((fewest_ahead(web, outcome, 2), most_ahead(web, outcome, 0)), (2, 13))
        self.assertEqual(must_come_behind(web, outcome, 1), (2,))
        self.assertRaises(CanNot, sizes_of, web, outcome)

    def test_how_many_ahead_of_fourteen_and_fifteen_with_nobody_without(self):
        web, outcome = apart(14)
        self.assertEqual(how_many_ahead(web, outcome, 3, 13), factorial(14) // 2)
        self.assertEqual(how_many_ahead(web, outcome, 3, 3), 0)
        web, outcome = apart(15)
        self.assertEqual(how_many_orders(web, outcome), factorial(15))
        self.assertEqual(how_many_first(web, outcome, 14), factorial(14))
        for pair in ((0, 1), (3, 3)):
            self.assertRaises(TooMany, how_many_ahead, web, outcome, *pair)

    def test_nobody(self):
        for web in ((1, ()), (40, ())):
            self.assertEqual((how_many_orders(web, ()), sizes_of(web, ())), (1, ()))
            self.assertEqual((can_come_first(web, ()), can_come_last(web, ())), ((), ()))
            self.assertRaises(NoGuest, how_many_first, web, (), 0)


class Refusals(unittest.TestCase):
    with_guest = (must_come_behind, fewest_ahead, most_ahead, how_many_first, how_many_last)

    def test_no_outcomes(self):
        """Each TAKING that no ORDER has, of small WEBS."""
        for web in few_webs(3, 2):
            for taking in takings_of(web):
                if taking not in orders_by_outcome(web):
                    for told in (sizes_of, how_many_orders, can_come_first, can_come_last):
                        self.assertRaises(Unfit, told, web, taking)
                    for told in self.with_guest:
                        self.assertRaises(Unfit, told, web, taking, 0)
                    self.assertRaises(Unfit, how_many_ahead, web, taking, 0, 0)

    def test_no_numbers(self):
        for number in NO_NUMBERS:
            for told in self.with_guest:
                self.assertRaises(Unfit, told, HALL, ALL_IN, number)
            self.assertRaises(Unfit, how_many_ahead, HALL, ALL_IN, number, 9)
            self.assertRaises(Unfit, how_many_ahead, HALL, ALL_IN, 9, number)

    def test_no_guests_in_their_order(self):
        for guest, goal, wrong in ((4, 9, 4), (0, 9, 9), (-1, 0, -1), (9, 0, 9), (0, -1, -1), (10 ** 6, 4, 10 ** 6), (4, 4, 4)):
            with self.subTest(guest=guest, goal=goal), self.assertRaises(NoGuest) as caught:
                how_many_ahead(HALL, ALL_IN, guest, goal)
            self.assertEqual(vars(caught.exception), {"guest": wrong})

    def test_no_guest_ahead_of_too_many(self):
        web, outcome = crowd_of(15), outcome_of_crowd(15)
        for how_many in HOW_MANY:
            self.assertRaises(NoGuest, how_many, web, outcome, 15)
            self.assertRaises(Unfit, how_many, web, outcome, True)
        self.assertRaises(NoGuest, how_many_ahead, web, outcome, 0, 15)
        self.assertRaises(NoGuest, how_many_ahead, *apart(15), 15, 0)
        self.assertRaises(Unfit, how_many_ahead, *apart(15), 15, None)
        self.assertRaises(Unfit, how_many_orders, web, (None,) * 15)


if __name__ == "__main__":
    unittest.main()
