"""[18], most.py: the fewest and the most WITHOUT, each number between, greatest CHOICES."""

import unittest
from itertools import combinations_with_replacement, permutations, product

from examples import check_examples
from small import (
    NO_NUMBERS, NO_ORDERS, NO_WEBS, few_webs, free_by_lot, great_webs, guests_by_hand, orders_of, parts_by_hand,
    seats_by_hand, small_webs,
)

from leftwithout import errors, most as of_most
from leftwithout.changed import put_beside, turned
from leftwithout.errors import CanNot, TooMany, Unfit
from leftwithout.lots import can_be_without
from leftwithout.most import (
    can_be_so_many, fewest, fewest_order, greatest_choice, is_order_so_many, lot_of, most, order_so_many, tree_parts,
)
from leftwithout.stars import all_choices, is_choice, is_plain
from leftwithout.webs import unwanted

SET_EARLIER = r'''
>>> hoop, two = (3, ((0, 1), (2, 1), (2, 0))), (3, ((1, 0), (1, 0), (1, 2)))
>>> hub = (6, ((1, 0), (2, 0), (3, 0), (4, 3), (4, 5), (5, 2), (1, 2)))
>>> eight = (8, ((0, 1), (1, 2), (3, 2), (3, 4), (5, 4), (6, 5), (6, 7), (0, 7)))
'''

EXAMPLES = r'''
>>> [(fewest(own), most(own)) for own in (hoop, hub, two, eight, (2, ()), (2, ((0, 1),) * 4))]
[(0, 1), (1, 2), (0, 1), (0, 2), (0, 0), (2, 2)]
>>> greatest_choice(hoop), greatest_choice(hub), greatest_choice(eight), greatest_choice((2, ()))
((1,), (0,), (2, 7), (0, 1))
>>> path = (4, ((1, 0), (1, 2), (3, 2)))
>>> tree_parts(path), tree_parts(hoop), tree_parts((3, ((0, 2),))), fewest(path), most(path)
(((0, 1, 2, 3),), (), ((0, 2), (1,)), 0, 0)
>>> [can_be_so_many(eight, own) for own in (-1, 0, 1, 2, 3)], lot_of(hoop, 1), lot_of(hub, 2) in ((3, 6), (4, 6), (5, 6))
([False, True, True, True, False], (2,), True)
>>> is_order_so_many(hub, 2, order_so_many(hub, 2)), is_order_so_many(hub, 1, fewest_order(hub)), [is_order_so_many(hoop, 1, own) for own in ((0, 1, 2), (2, 0, 1), [0, 1, 2])]
(True, True, [True, False, False])
>>> order_so_many(path, 1)
raises CanNot()
>>> lot_of(hoop, 2)
raises CanNot()
>>> greatest_choice((40, tuple([(own, own + 1) for own in range(20)])))
raises TooMany()
'''

HOOP = (3, ((0, 1), (2, 1), (2, 0)))
HALL = (5, ((0, 1), (2, 1), (2, 0), (3, 1), (1, 3)))
SMALL = few_webs(4, 4) + few_webs(3, 5) + tuple(small_webs())


def gone_by_hand(web, order):
    return tuple(sorted(guest for guest, place in seats_by_hand(web, order) if place is None))


def numbers_by_hand(web):
    """All numbers of GUESTS that some ORDER leaves WITHOUT."""
    return {len(lot) for lot in free_by_lot(web)}


def plain_unwanted(web):
    return [place for place in unwanted(web) if is_plain(web, place)]


class Examples(unittest.TestCase):
    def test_examples(self):
        check_examples(self, {**vars(errors), **vars(of_most)}, SET_EARLIER + EXAMPLES)


class ByAllOrders(unittest.TestCase):
    """The answers beside all ORDERS of small WEBS, run one after another."""

    def test_fewest_and_most(self):
        for web in SMALL:
            told = numbers_by_hand(web)
            self.assertEqual((fewest(web), most(web)), (min(told), max(told)))
            self.assertEqual(told, {*range(min(told), max(told) + 1)})

    def test_five_guests_of_five_places(self):
        pairs = [pair for pair in permutations(range(5), 2) if pair[0] < 3]
        for guests in list(combinations_with_replacement(pairs, 5))[::23]:
            told = numbers_by_hand((5, guests))
            self.assertEqual((fewest((5, guests)), most((5, guests))), (min(told), max(told)))

    def test_tree_parts(self):
        for web in SMALL:
            everybody = tuple(range(len(web[1])))
            told = [part for part in parts_by_hand(web, everybody) if len(guests_by_hand(web, everybody, part)) < len(part)]
            self.assertEqual(tree_parts(web), tuple(told))

    def test_greatest_choice(self):
        for web in SMALL:
            self.assertEqual(greatest_choice(web), min(all_choices(web), key=lambda own: (-len(own), own)))

    def test_can_be_so_many_and_such_orders(self):
        for web in few_webs(4, 3) + few_webs(3, 5) + few_webs()[::5]:
            told = numbers_by_hand(web)
            for number in range(-1, len(web[1]) + 2):
                self.assertIs(can_be_so_many(web, number), number in told)
                if number in told:
                    lot, order = lot_of(web, number), order_so_many(web, number)
                    self.assertEqual(len(lot), number)
                    self.assertIn(lot, free_by_lot(web))
                    self.assertEqual(sorted(order), list(range(len(web[1]))))
                    self.assertEqual(len(gone_by_hand(web, order)), number)
                else:
                    self.assertRaises(CanNot, lot_of, web, number)
                    self.assertRaises(CanNot, order_so_many, web, number)

    def test_fewest_order(self):
        for web in SMALL:
            order = fewest_order(web)
            self.assertEqual(sorted(order), list(range(len(web[1]))))
            self.assertEqual(len(gone_by_hand(web, order)), min(numbers_by_hand(web)))

    def test_is_order_so_many(self):
        for web in small_webs():
            for order in orders_of(web):
                gone = len(gone_by_hand(web, order))
                for number in range(-1, len(web[1]) + 1):
                    self.assertIs(is_order_so_many(web, number, order), number == gone)


class Guarantees(unittest.TestCase):
    def test_the_fewest_do_not_hang_on_what_is_wanted(self):
        for web in few_webs(3, 3):
            for lot in ((0,), (1,), (0, 2), (0, 1, 2)):
                if lot[-1] < len(web[1]):
                    self.assertEqual(fewest(turned(web, lot)), fewest(web))

    def test_webs_side_by_side(self):
        for web, other in product(few_webs(3, 2), repeat=2):
            both = put_beside(web, other)
            self.assertEqual((fewest(both), most(both)), (fewest(web) + fewest(other), most(web) + most(other)))

    def test_great_webs(self):
        for web in great_webs(60, 24, 30):
            everybody = tuple(range(len(web[1])))
            if len(plain_unwanted(web)) <= 16:
                least, greatest = fewest(web), most(web)
                self.assertEqual(greatest, len(web[1]) - 24 + len(greatest_choice(web)))
                for order in (everybody, everybody[::-1], everybody[::3] + everybody[1::3] + everybody[2::3]):
                    self.assertTrue(least <= len(gone_by_hand(web, order)) <= greatest)
                for number in range(least, greatest + 1):
                    order = order_so_many(web, number)
                    self.assertEqual((sorted(order), len(gone_by_hand(web, order))), (list(everybody), number))
                    self.assertIs(is_order_so_many(web, number, order), True)
                    lot = lot_of(web, number)
                    self.assertEqual((len(lot), can_be_without(web, lot)), (number, True))
                for number in (least - 1, greatest + 1, 10 ** 6, -10 ** 6):
                    self.assertIs(can_be_so_many(web, number), False)
                    self.assertRaises(CanNot, order_so_many, web, number)

    def test_greatest_choices_of_great_webs(self):
        seen = 0
        for web in great_webs(60, 24, 30):
            try:
                told = min(all_choices(web), key=lambda own: (-len(own), own))
            except TooMany:
                continue
            if len(plain_unwanted(web)) <= 16:
                seen += 1
                self.assertEqual(greatest_choice(web), told)
        self.assertGreater(seen, 20)

    def test_the_fewest_of_forty(self):
        for web in great_webs():
            order = fewest_order(web)
            self.assertEqual((sorted(order), len(gone_by_hand(web, order))), (list(range(len(web[1]))), fewest(web)))
            self.assertEqual(fewest(web), len(web[1]) - 40 + len(tree_parts(web)))
            self.assertIs(is_order_so_many(web, fewest(web), order), True)


class Bounds(unittest.TestCase):
    def test_sixteen_are_searched(self):
        self.assertEqual((greatest_choice((16, ())), most((16, ())), lot_of((16, ()), 0)), (tuple(range(16)), 0, ()))
        # Sixteen unwanted PLACES, each near the next one.
        chain = tuple((16 + k + far, k) for k in range(16) for far in (0, 1))
        web = (40, chain + tuple((33 + k, 32) for k in range(7)) + ((32, 33),))
        self.assertEqual(len(plain_unwanted(web)), 16)
        self.assertEqual(greatest_choice(web), tuple(range(0, 16, 2)))
        self.assertEqual(most(web), 40 - 40 + 8)
        for number in range(fewest(web), 9):
            self.assertEqual(len(gone_by_hand(web, order_so_many(web, number))), number)

    def test_seventeen_are_too_many(self):
        for web in ((17, ()), (40, tuple((own, own + 1) for own in range(20)))):
            for told in (most, greatest_choice):
                self.assertRaises(TooMany, told, web)
            for told in (can_be_so_many, lot_of, order_so_many):
                # Ahead of CanNot, and of False.
                for number in (0, -1, 1, 10 ** 6):
                    self.assertRaises(TooMany, told, web, number)
            self.assertEqual((fewest(web), gone_by_hand(web, fewest_order(web))), (0, ()))
            self.assertIs(is_order_so_many(web, 0, fewest_order(web)), True)
        self.assertEqual(tree_parts((17, ())), tuple((place,) for place in range(17)))

    def test_places_that_are_wanted_or_not_plain_do_not_count(self):
        web = (19, ((17, 16), (17, 16), (18, 15)))
        self.assertEqual(len(unwanted(web)), 17)
        self.assertEqual((greatest_choice(web), most(web)), (tuple(range(16)), 0))
        self.assertRaises(TooMany, most, (19, ((17, 16), (18, 15))))
        self.assertRaises(TooMany, most, (19, ((18, 17),)))

    def test_forty_guests(self):
        crowd = (2, ((0, 1), (1, 0)) * 20)
        self.assertEqual((fewest(crowd), most(crowd), greatest_choice(crowd)), (38, 38, ()))
        self.assertEqual(len(lot_of(crowd, 38)), 38)
        circle = (40, tuple((k, (k + 1) % 40) for k in range(40)))
        self.assertEqual((fewest(circle), most(circle), tree_parts(circle)), (0, 0, ()))

    def test_nobody(self):
        for many in (1, 16):
            web = (many, ())
            self.assertEqual((fewest(web), most(web), fewest_order(web), order_so_many(web, 0)), (0, 0, (), ()))
            self.assertEqual((greatest_choice(web), len(tree_parts(web))), (tuple(range(many)), many))
            self.assertRaises(CanNot, lot_of, web, 1)
            self.assertRaises(CanNot, order_so_many, web, -1)


class Refusals(unittest.TestCase):
    def test_no_numbers(self):
        for number in NO_NUMBERS:
            for told in (can_be_so_many, lot_of, order_so_many):
                for web in (HOOP, (17, ())):
                    self.assertRaises(Unfit, told, web, number)
            for thing in ((0, 1, 2), None):
                self.assertRaises(Unfit, is_order_so_many, HOOP, number, thing)

    def test_no_webs(self):
        for wrong in NO_WEBS:
            for told in (fewest, most, tree_parts, greatest_choice, fewest_order):
                self.assertRaises(Unfit, told, wrong)
            for told in (can_be_so_many, lot_of, order_so_many):
                self.assertRaises(Unfit, told, wrong, 0)
            for thing in ((), (0, 1, 2), None):
                self.assertRaises(Unfit, is_order_so_many, wrong, 0, thing)

    def test_no_orders(self):
        self.assertIs(is_order_so_many(HALL, 1, (2, 1, 0, 4, 3)), True)
        for k, thing in enumerate(NO_ORDERS + ([2, 1, 0, 4, 3], (2, 1, 0, 4), (2, True, 0, 4, 3), (2, 1, False, 4, 3))):
            with self.subTest(k):
                self.assertIs(is_order_so_many(HALL, 1, thing), False)
                self.assertIs(is_order_so_many(HALL, 0, thing), False)

    def test_a_greatest_choice_is_a_choice(self):
        for web in few_webs(4, 3):
            self.assertIs(is_choice(web, greatest_choice(web)), True)


if __name__ == "__main__":
    unittest.main()
