"""[10], together.py: GUESTS together WITHOUT, who never is, who never with another."""

import unittest

from examples import check_examples
from small import (
    NO_LOTS, NO_ORDERS, NO_WEBS, NOTHING_AT_ALL, few_webs, free_by_lot, great_webs, guests_by_hand, lots_of, orders_of,
    parts_by_hand, seats_by_hand, sets_of, small_webs,
)

from leftwithout import errors, together
from leftwithout.errors import CanNot, NoGuest, Unfit
from leftwithout.lots import can_be_without
from leftwithout.together import (
    can_together, is_order_with, is_why_never, lot_with, never_without, order_with, rivals, why_never,
)

SET_EARLIER = r'''
>>> street, bench, crowd = (4, ((1, 0), (1, 2), (2, 3))), (3, ((1, 0), (1, 2), (1, 0))), (3, ((0, 1), (1, 0), (1, 2), (2, 1)))
'''

EXAMPLES = r'''
>>> [can_together(street, own) for own in ((), (1,), (0, 1))], [can_together(bench, own) for own in ((0,), (2,), (0, 2))], can_together(crowd, ())
([True, True, False], [True, True, False], True)
>>> never_without(street), never_without(bench), never_without(crowd), rivals(bench, 0), rivals(bench, 1), rivals(crowd, 0)
((0, 2), (1,), (), (2,), (), (1, 2, 3))
>>> lot_with(bench, (0,)), len(lot_with(crowd, ())), is_order_with(bench, (0,), order_with(bench, (0,))), is_order_with(crowd, (), (3, 2, 1, 0)), is_order_with(street, (0,), (0, 1, 2))
((0,), 1, True, True, False)
>>> why_never(street, (0,)), is_why_never(street, (0, 2), (3,)), is_why_never(street, (0,), (1, 2, 3)), why_never(bench, (0, 2)), is_why_never(bench, (0, 2), [0])
((0,), True, False, (0,), False)
>>> triple = (2, ((0, 1), (0, 1), (1, 0), (1, 0)))
>>> [can_together(triple, own) for own in ((0, 1), (0, 3), (0, 1, 2))], can_be_without(triple, (0,)), lot_with(triple, (0, 1)), len(lot_with(triple, (2,))), is_why_never(triple, (0, 1, 2), (0, 1))
([True, True, False], False, (0, 1), 2, True)
>>> order_with(street, (0, 1))
raises CanNot()
>>> why_never(bench, (2,))
raises CanNot()
>>> rivals(bench, 3)
raises NoGuest(guest=3)
'''

HALL = (5, ((0, 1), (2, 1), (2, 0), (3, 1), (1, 3)))
STREET, BENCH = (4, ((1, 0), (1, 2), (2, 3))), (3, ((1, 0), (1, 2), (1, 0)))


def gone_by_hand(web, order):
    return {guest for guest, place in seats_by_hand(web, order) if place is None}


def can_by_hand(web, lot):
    """Whether by some ORDER each of the LOT is WITHOUT."""
    return any({*lot} <= {*gone} for gone in free_by_lot(web))


def barring_by_hand(web, lot):
    """The PARTS that bar the LOT, word for word."""
    rest = tuple(guest for guest in range(len(web[1])) if guest not in lot)
    wishes, met = {pair[0] for pair in web[1]}, {end for guest in lot for end in web[1][guest]}
    found = []
    for part in parts_by_hand(web, rest):
        tree = len(guests_by_hand(web, rest, part)) < len(part)
        if tree and {*part} & met and not {*part} - wishes - met:
            found.append(part)
    return found


def webs_and_lots(webs):
    for web in webs:
        for lot in lots_of(web):
            yield web, lot


class Examples(unittest.TestCase):
    def test_examples(self):
        check_examples(self, {**vars(errors), **vars(together), "can_be_without": can_be_without}, SET_EARLIER + EXAMPLES)


class ByAllOrders(unittest.TestCase):
    """The answers beside all ORDERS of small WEBS, run one after another."""

    webs = few_webs() + few_webs(3, 5) + tuple(small_webs())

    def test_can_together(self):
        for web, lot in webs_and_lots(self.webs):
            self.assertIs(can_together(web, lot), can_by_hand(web, lot))

    def test_what_is_told_for_the_one_and_for_the_other_case(self):
        for web, lot in webs_and_lots(self.webs):
            barring = barring_by_hand(web, lot)
            self.assertEqual(not barring, can_by_hand(web, lot))
            if barring:
                self.assertIn(why_never(web, lot), barring)
                self.assertRaises(CanNot, lot_with, web, lot)
                self.assertRaises(CanNot, order_with, web, lot)
            else:
                self.assertRaises(CanNot, why_never, web, lot)
                self.assertLessEqual({*lot}, {*lot_with(web, lot)})
                self.assertIn(lot_with(web, lot), free_by_lot(web))
                self.assertEqual(sorted(order_with(web, lot)), list(range(len(web[1]))))
                self.assertLessEqual({*lot}, gone_by_hand(web, order_with(web, lot)))

    def test_never_without(self):
        for web in self.webs:
            ever = {guest for lot in free_by_lot(web) for guest in lot}
            self.assertEqual(never_without(web), tuple(guest for guest in range(len(web[1])) if guest not in ever))

    def test_rivals(self):
        for web in self.webs:
            gone = [{*lot} for lot in free_by_lot(web)]
            ever = sorted(set().union(*gone))
            for guest in range(len(web[1])):
                told = [own for own in ever if own != guest and not any({own, guest} <= lot for lot in gone)]
                self.assertEqual(rivals(web, guest), tuple(told) if guest in ever else ())

    def test_is_order_with(self):
        for web in small_webs():
            for order in orders_of(web):
                gone = gone_by_hand(web, order)
                for lot in lots_of(web):
                    self.assertIs(is_order_with(web, lot, order), {*lot} <= gone)

    def test_is_why_never(self):
        for web, lot in webs_and_lots(few_webs(3, 4)):
            told = barring_by_hand(web, lot)
            for thing in sets_of(web[0]):
                self.assertIs(is_why_never(web, lot, thing), thing in told)


class Guarantees(unittest.TestCase):
    def test_with_any_of_them_left_out(self):
        for web, lot in webs_and_lots(few_webs(4, 3)):
            if can_together(web, lot):
                for guest in lot:
                    self.assertIs(can_together(web, tuple(own for own in lot if own != guest)), True)

    def test_a_lot_that_can_be_without_can_be_together(self):
        for web, lot in webs_and_lots(few_webs()):
            self.assertGreaterEqual(can_together(web, lot), can_be_without(web, lot))

    def test_rivals_are_rivals_of_one_another(self):
        for web in few_webs():
            told = [rivals(web, guest) for guest in range(len(web[1]))]
            for guest, own in enumerate(told):
                for other in own:
                    self.assertIn(guest, told[other])

    def test_who_never_is_without(self):
        for web in few_webs():
            for guest in range(len(web[1])):
                rest, ends = [own for own in range(len(web[1])) if own != guest], {*web[1][guest]}
                wishes = {pair[0] for pair in web[1]}
                never = False
                for part in parts_by_hand(web, rest):
                    if len(guests_by_hand(web, rest, part)) < len(part) and ends & {*part}:
                        never = never or {*part} - wishes <= ends
                self.assertEqual(guest in never_without(web), never)


class GreatWebs(unittest.TestCase):
    def check_lot(self, web, lot):
        barring = barring_by_hand(web, lot)
        self.assertIs(can_together(web, lot), not barring)
        if barring:
            self.assertIs(is_why_never(web, lot, why_never(web, lot)), True)
            self.assertIn(why_never(web, lot), barring)
        else:
            self.assertTrue(can_be_without(web, lot_with(web, lot)))
            self.assertLessEqual({*lot}, {*lot_with(web, lot)})
            self.assertLessEqual({*lot}, gone_by_hand(web, order_with(web, lot)))
            self.assertIs(is_order_with(web, lot, order_with(web, lot)), True)

    def test_any_lots(self):
        for web in great_webs():
            count = len(web[1])
            never = tuple(guest for guest in range(count) if barring_by_hand(web, (guest,)))
            self.assertEqual(never_without(web), never)
            for lot in ((), (0,), (0, count - 1), tuple(range(0, count, 4)), tuple(range(count))):
                self.check_lot(web, lot)

    def test_rivals(self):
        for web in great_webs(10):
            count = len(web[1])
            ever = [guest for guest in range(count) if not barring_by_hand(web, (guest,))]
            for guest in range(0, count, 7):
                told = [own for own in ever if own != guest and barring_by_hand(web, tuple(sorted((own, guest))))]
                self.assertEqual(rivals(web, guest), tuple(told) if guest in ever else ())

    def test_bounds(self):
        straight = (40, tuple((k, k + 1) for k in range(39)))
        crowd = (2, ((0, 1), (1, 0)) * 20)
        self.assertEqual((never_without(straight), never_without(crowd)), (tuple(range(39)), ()))
        self.assertEqual(len(lot_with(crowd, ())), 38)
        self.assertEqual((can_together(crowd, tuple(range(38))), can_together(crowd, tuple(range(39)))), (True, False))
        self.assertEqual((never_without((1, ())), can_together((40, ()), ()), order_with((40, ()), ())), ((), True, ()))
        self.assertEqual((lot_with((1, ()), ()), is_order_with((1, ()), (), ())), ((), True))
        self.assertRaises(CanNot, why_never, (1, ()), ())


class Things(unittest.TestCase):
    def test_no_orders(self):
        for k, thing in enumerate(NO_ORDERS + ([0, 1, 2, 3, 4], (0, 1, 2, 3), (False, 1, 2, 3, 4), (0, True, 2, 3, 4))):
            with self.subTest(k):
                self.assertIs(is_order_with(HALL, (2,), thing), False)
                self.assertIs(is_order_with(HALL, (), thing), False)
        self.assertIs(is_order_with(HALL, (2,), (0, 1, 2, 3, 4)), True)

    def test_no_parts_that_tell_why_never(self):
        self.assertIs(is_why_never(STREET, (1, 2), (2,)), True)
        for thing in ([2], (2.0,), ((2,),), (2, 2), (3, 2), "2"):
            with self.subTest(thing):
                self.assertIs(is_why_never(STREET, (1, 2), thing), False)
        triple = (2, ((0, 1), (0, 1), (1, 0), (1, 0)))
        for thing, told in (((0, 1), True), ((0, True), False), ((False, 1), False), ([0, 1], False)):
            self.assertIs(is_why_never(triple, (0, 1, 2), thing), told)
        for k, thing in enumerate(NOTHING_AT_ALL + ((), [0], (False,), (1,))):
            with self.subTest(k):
                self.assertIs(is_why_never(STREET, (0,), thing), False)

    def test_no_web_and_no_lot_whatever_thing_is(self):
        for told in (is_order_with, is_why_never):
            for thing in ((0, 1, 2, 3, 4), (), None, "a"):
                for wrong in NO_WEBS:
                    self.assertRaises(Unfit, told, wrong, (), thing)
                for wrong in NO_LOTS:
                    self.assertRaises(Unfit, told, HALL, wrong, thing)


class Refusals(unittest.TestCase):
    def test_no_guest(self):
        for guest in (3, -1, 10 ** 6):
            with self.subTest(guest), self.assertRaises(NoGuest) as caught:
                rivals(BENCH, guest)
            self.assertEqual(caught.exception.guest, guest)
        self.assertRaises(Unfit, rivals, BENCH, True)
        self.assertRaises(Unfit, rivals, (0, ()), 3)

    def test_no_lots_ahead_of_can_not(self):
        for lot in ((1, 0), (0, 0), (3,), (True,), None):
            for told in (can_together, lot_with, order_with, why_never):
                with self.subTest(told.__name__, lot=lot), self.assertRaises(Unfit):
                    told(STREET, lot)


if __name__ == "__main__":
    unittest.main()
