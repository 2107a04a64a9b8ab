"""[9], lots.py: which LOTS can be WITHOUT, and what such ORDERS leave free."""

import unittest
from itertools import permutations

from examples import check_examples
from small import (
    NO_LOTS, NO_ORDERS, NO_WEBS, NOTHING_AT_ALL, few_webs, free_by_lot, great_webs, guests_by_hand, lots_of, orders_of,
    parts_by_hand, seats_by_hand, sets_of, small_webs,
)

from leftwithout import errors, lots
from leftwithout.errors import CanNot, Unfit
from leftwithout.lots import (
    can_be_without, how_many_free, is_order_for, is_why_not, order_for, order_leaving, spare_places, why_not,
)

EXAMPLES = r'''
>>> street, bench, crowd = (4, ((1, 0), (1, 2), (2, 3))), (3, ((1, 0), (1, 2), (1, 0))), (3, ((0, 1), (1, 0), (1, 2), (2, 1)))
>>> [can_be_without(street, own) for own in ((), (0,), (1,), (2,), (0, 2))], [can_be_without(crowd, own) for own in ((), (0,), (1, 2))]
([True, False, True, False, False], [False, True, False])
>>> is_order_for(street, (1,), order_for(street, (1,))), is_order_for(street, (1,), (0, 2, 1)), is_order_for(street, (1,), (1, 0, 2)), is_order_for(street, (), (1, 0, 2)), is_order_for(street, (1,), [0, 2, 1])
(True, True, False, True, False)
>>> why_not(street, (0,)), is_why_not(street, (0, 2), (0,)), is_why_not(street, (0, 2), (1, 2)), is_why_not(street, (1,), (0, 1)), why_not(crowd, ())
((0,), True, True, False, (0, 1, 2))
>>> spare_places(street, ()), how_many_free(street, ()), spare_places(street, (1,)), how_many_free(street, (1,)), spare_places(bench, (0,)), how_many_free(crowd, (3,))
((0, 3), 1, (0, 3), 2, (2,), 0)
>>> order_leaving(street, (), (0,)), is_order_for(crowd, (3,), order_leaving(crowd, (3,), ())), is_order_for(street, (1,), order_leaving(street, (1,), (0, 3)))
((0, 1, 2), True, True)
>>> order_for(street, (2,))
raises CanNot()
>>> why_not(street, (1,))
raises CanNot()
>>> order_leaving(street, (1,), (0,))
raises CanNot()
>>> can_be_without(street, (1, 1))
raises Unfit()
'''

HALL = (5, ((0, 1), (2, 1), (2, 0), (3, 1), (1, 3)))
STREET, CROWD = (4, ((1, 0), (1, 2), (2, 3))), (3, ((0, 1), (1, 0), (1, 2), (2, 1)))
STRAIGHT = (40, tuple((k, k + 1) for k in range(39)))
CIRCLE = (40, tuple((k, (k + 1) % 40) for k in range(40)))


def rest_of(web, lot):
    return tuple(guest for guest in range(len(web[1])) if guest not in lot)


def spares_by_hand(web, lot, part):
    wishes = {pair[0] for pair in web[1]}
    return {*part} - wishes - {end for guest in lot for end in web[1][guest]}


def against_by_hand(web, lot):
    """The PARTS of the others that are crowded, or trees without a spare PLACE."""
    rest, found = rest_of(web, lot), []
    for part in parts_by_hand(web, rest):
        more = len(guests_by_hand(web, rest, part)) - len(part)
        if more > 0 or (more < 0 and not spares_by_hand(web, lot, part)):
            found.append(part)
    return found


def run_by_hand(web, order):
    """The LOT that is WITHOUT by the ORDER, and the set of the PLACES that it leaves free."""
    told = seats_by_hand(web, order)
    taken = [place for _, place in told]
    lot = tuple(sorted(guest for guest, place in told if place is None))
    return lot, tuple(place for place in range(web[0]) if place not in taken)


def webs_and_lots(webs):
    for web in webs:
        for lot in lots_of(web):
            yield web, lot


class Examples(unittest.TestCase):
    def test_examples(self):
        check_examples(self, {**vars(errors), **vars(lots)}, EXAMPLES)


class ByAllOrders(unittest.TestCase):
    """The answers beside all ORDERS of small WEBS, run one after another."""

    webs = few_webs() + few_webs(3, 5) + tuple(small_webs())

    def test_can_be_without(self):
        for web, lot in webs_and_lots(self.webs):
            self.assertIs(can_be_without(web, lot), lot in free_by_lot(web))

    def test_order_for(self):
        for web, lot in webs_and_lots(self.webs):
            if lot in free_by_lot(web):
                order = order_for(web, lot)
                self.assertEqual(sorted(order), list(range(len(web[1]))))
                self.assertEqual(run_by_hand(web, order)[0], lot)
                self.assertIs(is_order_for(web, lot, order), True)
            else:
                self.assertRaises(CanNot, order_for, web, lot)

    def test_why_not(self):
        for web, lot in webs_and_lots(self.webs):
            told = against_by_hand(web, lot)
            if lot in free_by_lot(web):
                self.assertEqual(told, [])
                self.assertRaises(CanNot, why_not, web, lot)
            else:
                self.assertIn(why_not(web, lot), told)

    def test_is_why_not(self):
        for web, lot in webs_and_lots(few_webs(3, 4)):
            told = against_by_hand(web, lot)
            for thing in sets_of(web[0]):
                self.assertIs(is_why_not(web, lot, thing), thing in told)

    def test_what_is_left_free(self):
        for web, lot in webs_and_lots(self.webs):
            told = free_by_lot(web).get(lot)
            if told is None:
                self.assertRaises(CanNot, spare_places, web, lot)
                self.assertRaises(CanNot, how_many_free, web, lot)
            else:
                self.assertEqual(spare_places(web, lot), tuple(sorted({place for free in told for place in free})))
                self.assertEqual({len(free) for free in told}, {how_many_free(web, lot)})
                self.assertEqual(how_many_free(web, lot), web[0] - len(rest_of(web, lot)))

    def test_order_leaving(self):
        for web, lot in webs_and_lots(few_webs(4, 3) + few_webs(3, 4)):
            told = free_by_lot(web).get(lot, ())
            for places in sets_of(web[0]):
                if places in told:
                    order = order_leaving(web, lot, places)
                    self.assertEqual(sorted(order), list(range(len(web[1]))))
                    self.assertEqual(run_by_hand(web, order), (lot, places))
                else:
                    self.assertRaises(CanNot, order_leaving, web, lot, places)

    def test_is_order_for(self):
        for web in small_webs():
            for order in orders_of(web):
                gone = run_by_hand(web, order)[0]
                for lot in lots_of(web):
                    self.assertIs(is_order_for(web, lot, order), gone == lot)

    def test_whoever_of_the_lot_comes_last_changes_nothing(self):
        for web in few_webs(3, 4):
            for lot, told in free_by_lot(web).items():
                found = set()
                for ahead in permutations(rest_of(web, lot)):
                    for behind in permutations(lot):
                        gone, free = run_by_hand(web, ahead + behind)
                        found |= {free} if gone == lot else set()
                self.assertEqual(found, told)


class GreatWebs(unittest.TestCase):
    def check_lot(self, web, lot):
        against = against_by_hand(web, lot)
        self.assertIs(can_be_without(web, lot), not against)
        if against:
            self.assertIn(why_not(web, lot), against)
            self.assertIs(is_why_not(web, lot, why_not(web, lot)), True)
            self.assertRaises(CanNot, order_for, web, lot)
        else:
            gone, free = run_by_hand(web, order_for(web, lot))
            self.assertEqual((gone, len(free)), (lot, how_many_free(web, lot)))
            self.assertLessEqual({*free}, {*spare_places(web, lot)})
            self.assertEqual(run_by_hand(web, order_leaving(web, lot, free)), (gone, free))

    def test_lots_told_by_runs(self):
        for web in great_webs():
            everybody = tuple(range(len(web[1])))
            for order in (everybody, everybody[::-1], everybody[::2] + everybody[1::2]):
                lot, free = run_by_hand(web, order)
                self.check_lot(web, lot)
                self.assertIs(is_order_for(web, lot, order), True)
                self.assertEqual(run_by_hand(web, order_leaving(web, lot, free)), (lot, free))

    def test_any_lots(self):
        for web in great_webs():
            for step in (1, 2, 5, 50):
                self.check_lot(web, tuple(range(0, len(web[1]), step)))

    def test_bounds(self):
        self.assertEqual((spare_places(STRAIGHT, ()), how_many_free(STRAIGHT, ())), ((39,), 1))
        self.assertEqual(order_for(STRAIGHT, ()), tuple(range(38, -1, -1)))
        self.assertEqual((spare_places(CIRCLE, ()), how_many_free(CIRCLE, ())), ((), 0))
        self.assertEqual(run_by_hand(CIRCLE, order_leaving(CIRCLE, (), ())), ((), ()))
        for guest in (0, 39):
            self.assertEqual(why_not(CIRCLE, (guest,)), tuple(range(40)))
        crowd = (2, ((0, 1), (1, 0)) * 20)
        self.assertEqual(run_by_hand(crowd, order_for(crowd, tuple(range(38)))), (tuple(range(38)), ()))
        self.assertEqual(why_not(crowd, tuple(range(37))), (0, 1))

    def test_nobody(self):
        for many in (1, 40):
            web, free = (many, ()), tuple(range(many))
            self.assertEqual((can_be_without(web, ()), order_for(web, ()), order_leaving(web, (), free)), (True, (), ()))
            self.assertEqual((spare_places(web, ()), how_many_free(web, ())), (free, many))
            self.assertIs(is_order_for(web, (), ()), True)
            self.assertRaises(CanNot, why_not, web, ())
            self.assertRaises(CanNot, order_leaving, web, (), free[1:])


class Spare(unittest.TestCase):
    def test_a_place_that_somebody_of_the_lot_wants_or_ends_at_is_not_spare(self):
        web = (3, ((0, 1), (0, 2), (1, 2)))
        self.assertEqual(why_not(web, (2,)), (0, 1, 2))
        self.assertEqual(spare_places((3, ((0, 1), (0, 2))), ()), (1, 2))
        self.assertEqual(spare_places((4, ((1, 0), (2, 1), (1, 3))), ()), (0, 3))

    def test_spare_places_of_full_parts_are_none(self):
        web = (3, ((0, 1), (0, 1), (1, 2)))
        self.assertEqual((spare_places(web, ()), how_many_free(web, ())), ((), 0))
        self.assertRaises(CanNot, order_leaving, web, (), (2,))


class Things(unittest.TestCase):
    def test_no_orders(self):
        for k, thing in enumerate(NO_ORDERS + ([0, 2, 1, 3, 4], (0, 1, 2, 3), (False, 1, 2, 3, 4), (0, True, 2, 3, 4))):
            with self.subTest(k):
                self.assertIs(is_order_for(HALL, (2,), thing), False)
        self.assertIs(is_order_for(HALL, (2,), (0, 1, 2, 3, 4)), True)

    def test_no_parts_that_tell_why_not(self):
        self.assertIs(is_why_not(CROWD, (), (0, 1, 2)), True)
        self.assertIs(is_why_not(STREET, (0,), (0,)), True)
        for thing in ([0, 1, 2], (0, True, 2), (False, 1, 2), (0, 1), (2, 1, 0), (0, 1, 2, 2), (0.0, 1, 2), ((0, 1, 2),)):
            with self.subTest(thing):
                self.assertIs(is_why_not(CROWD, (), thing), False)
        for k, thing in enumerate(NOTHING_AT_ALL + ((), [0], (False,), (1,))):
            with self.subTest(k):
                self.assertIs(is_why_not(STREET, (0,), thing), False)

    def test_no_web_and_no_lot_whatever_thing_is(self):
        for told in (is_order_for, is_why_not):
            for thing in ((0, 1, 2, 3, 4), (), None, "a"):
                for wrong in NO_WEBS:
                    self.assertRaises(Unfit, told, wrong, (), thing)
                for wrong in NO_LOTS:
                    self.assertRaises(Unfit, told, HALL, wrong, thing)


class Refusals(unittest.TestCase):
    def test_no_set_of_places(self):
        wrong = NOTHING_AT_ALL + (
            (1, 0), (0, 0), (0, 4), (4,), (-1,), (-1, 0), (0, True), (False, 3), (0, None), (0, (3,)), (0, 3, 3), "03", {0, 3},
        )
        for k, places in enumerate(wrong):
            with self.subTest(k):
                self.assertRaises(Unfit, order_leaving, STREET, (1,), places)
                self.assertRaises(Unfit, order_leaving, STREET, (0,), places)

    def test_no_lots_ahead_of_can_not(self):
        for lot in ((1, 0), (0, 0), (3,), (True,), None):
            for told in (can_be_without, order_for, why_not, spare_places, how_many_free):
                with self.subTest(told.__name__, lot=lot), self.assertRaises(Unfit):
                    told(STREET, lot)
            self.assertRaises(Unfit, order_leaving, STREET, lot, ())


if __name__ == "__main__":
    unittest.main()
