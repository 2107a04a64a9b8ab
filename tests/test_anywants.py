"""[24], anywants.py: whatever is wanted, LOTS by some WANTS and by all, the most over all WANTS, steady WEBS."""

import unittest
from functools import lru_cache
from itertools import combinations

from examples import check_examples
from small import (
    NO_LOTS, NO_WANTS, NO_WEBS, NOTHING_AT_ALL, as_lists, few_webs, free_by_lot, great_webs, lots_of, seats_by_hand,
    sets_of, small_webs, wanting_by_hand, wants_of,
)

from leftwithout import anywants, errors
from leftwithout.anywants import (
    can_all_want, can_some_want, is_stars_apart, is_steady, is_wants_against, is_wants_for, most_some_want, stars_apart,
    steady_wants, wants_against, wants_for, wants_for_most,
)
from leftwithout.errors import CanNot, TooMany, Unfit
from leftwithout.lots import can_be_without
from leftwithout.most import fewest, most
from leftwithout.stars import is_plain, star
from leftwithout.wants import is_wants, with_wants

EXAMPLES = r'''
>>> path, crowd, hoop = (4, ((1, 0), (1, 2), (2, 3))), (3, ((0, 1), (0, 1), (1, 2), (0, 2))), (3, ((0, 1), (1, 2), (2, 0)))
>>> [can_some_want(path, own) for own in ((), (1,), (0,), (0, 1))], [can_all_want(path, own) for own in ((), (1,), (0,))]
([True, True, False, False], [True, False, False])
>>> can_some_want(crowd, (1,)), can_all_want(crowd, (1,)), can_all_want(crowd, (0, 1)), can_some_want(crowd, (0, 1))
(True, True, False, True)
>>> is_wants_for(path, (1,), (0, 0, 0)), is_wants_for(path, (1,), (1, 0, 0)), is_wants_for(path, (1,), wants_for(path, (1,))), is_wants_against(path, (1,), (1, 0, 0))
(True, False, True, True)
>>> most_some_want(path), most_some_want(crowd), stars_apart(crowd), most_some_want(hoop), is_stars_apart(path, (0, 3)), is_stars_apart(path, (0,))
(1, 2, (2,), 1, True, False)
>>> is_steady(path), is_steady(hoop), is_steady(crowd), is_steady(with_wants(path, (1, 1, 1))), is_steady(with_wants(crowd, steady_wants(crowd)))
(False, True, False, True, True)
>>> wants_for(path, (0,))
raises CanNot()
>>> wants_against(crowd, (1,))
raises CanNot()
'''

WITH_WANTS = {"with_wants": with_wants}
HALL = (5, ((0, 1), (2, 1), (2, 0), (3, 1), (1, 3)))
SMALL = few_webs(3, 3) + few_webs(4, 3)[::2] + few_webs(3, 4)[::5] + few_webs(4, 4)[::60] + tuple(small_webs())[::3]
SEARCHING = (most_some_want, stars_apart, wants_for_most)


@lru_cache(maxsize=None)
def lots_by_wants(web):
    """For all WANTS the LOTS that can be WITHOUT by them, told by all ORDERS."""
    return {wants: {*free_by_lot(wanting_by_hand(web, wants))} for wants in wants_of(web)}


def numbers_by_wants(web):
    """For all WANTS how many can be WITHOUT by them."""
    return {wants: {len(lot) for lot in lots} for wants, lots in lots_by_wants(web).items()}


def apart_by_hand(web):
    """All sets of PLACES apart."""
    plain = [place for place in range(web[0]) if is_plain(web, place)]
    return [
        some for long in range(len(plain) + 1) for some in combinations(plain, long)
        if not any({*star(web, one)} & {*star(web, other)} for one, other in combinations(some, 2))
    ]


class Examples(unittest.TestCase):
    def test_examples(self):
        check_examples(self, {**vars(errors), **vars(anywants), **WITH_WANTS}, EXAMPLES)


class ByAllWants(unittest.TestCase):
    """The answers beside all WANTS and all ORDERS of small WEBS, run one after another."""

    def test_lots_by_some_and_by_all(self):
        for web in SMALL:
            told = lots_by_wants(web)
            for lot in lots_of(web):
                can = [lot in lots for lots in told.values()]
                self.assertIs(can_some_want(web, lot), any(can))
                self.assertIs(can_all_want(web, lot), all(can))

    def test_wants_for_and_against(self):
        for web in SMALL:
            told = lots_by_wants(web)
            for lot in lots_of(web):
                for find, can in ((wants_for, True), (wants_against, False)):
                    if can in [lot in lots for lots in told.values()]:
                        wants = find(web, lot)
                        self.assertIs(is_wants(web, wants), True)
                        self.assertIs(lot in told[wants], can)
                    else:
                        self.assertRaises(CanNot, find, web, lot)

    def test_is_wants_for_and_against(self):
        for web in few_webs(3, 3) + few_webs(4, 3)[::5]:
            for wants, lots in lots_by_wants(web).items():
                for lot in lots_of(web):
                    self.assertIs(is_wants_for(web, lot, wants), lot in lots)
                    self.assertIs(is_wants_against(web, lot, wants), lot not in lots)

    def test_the_most_over_all_wants(self):
        for web in SMALL:
            told = numbers_by_wants(web)
            most_of_all = max(max(numbers) for numbers in told.values())
            self.assertEqual(most_some_want(web), most_of_all)
            self.assertEqual(max(told[wants_for_most(web)]), most_of_all)

    def test_the_fewest_are_the_same_by_all_wants(self):
        for web in SMALL:
            self.assertEqual({min(numbers) for numbers in numbers_by_wants(web).values()}, {fewest(web)})

    def test_steady(self):
        for web in SMALL:
            told = numbers_by_wants(web)
            for wants, numbers in told.items():
                self.assertIs(is_steady(wanting_by_hand(web, wants)), len(numbers) == 1)
            self.assertEqual(len(told[steady_wants(web)]), 1)

    def test_stars_apart(self):
        for web in SMALL + few_webs(4, 4)[::11]:
            told = apart_by_hand(web)
            greatest = max(map(len, told))
            self.assertIn(stars_apart(web), told)
            self.assertEqual(len(stars_apart(web)), greatest)
            self.assertEqual(most_some_want(web), len(web[1]) - web[0] + greatest)
            for places in sets_of(web[0]):
                self.assertIs(is_stars_apart(web, places), places in told and len(places) == greatest)


class GreatWebs(unittest.TestCase):
    def gone(self, web, order):
        return tuple(sorted(guest for guest, place in seats_by_hand(web, order) if place is None))

    def test_lots(self):
        seen = set()
        for web in [*great_webs(), *great_webs(60, 24, 40)]:
            everybody = tuple(range(len(web[1])))
            lots = [self.gone(web, order) for order in (everybody, everybody[::-1])]
            for lot in lots + [lot[:-1] for lot in lots if lot] + [(0, 1), (2,), ()]:
                some, each = can_some_want(web, lot), can_all_want(web, lot)
                seen.add((some, each))
                self.assertTrue(some or lot not in lots)
                self.assertFalse(each and not can_be_without(web, lot))
                if some:
                    self.assertIs(can_be_without(with_wants(web, wants_for(web, lot)), lot), True)
                    self.assertIs(is_wants_for(web, lot, wants_for(web, lot)), True)
                if not each:
                    self.assertIs(can_be_without(with_wants(web, wants_against(web, lot)), lot), False)
                    self.assertIs(is_wants_against(web, lot, wants_against(web, lot)), True)
        self.assertEqual(seen, {(False, False), (True, False), (True, True)})

    def test_the_most_and_steady_wants(self):
        seen = 0
        for web in [*great_webs(60, 20, 30), *great_webs(60, 12, 12)]:
            steady = with_wants(web, steady_wants(web))
            self.assertEqual((fewest(steady), most(steady), is_steady(steady)), (fewest(web), fewest(web), True))
            if len([place for place in range(web[0]) if is_plain(web, place)]) <= 16:
                seen += 1
                self.assertEqual(most(with_wants(web, wants_for_most(web))), most_some_want(web))
                self.assertGreaterEqual(most_some_want(web), most(web))
                self.assertIs(is_stars_apart(web, stars_apart(web)), True)
                self.assertIs(is_steady(web), fewest(web) == most(web))
        self.assertGreater(seen, 60)

    def test_steady_wants_of_forty(self):
        for web in great_webs():
            wants = steady_wants(web)
            self.assertIs(is_wants(web, wants), True)
            steady = with_wants(web, wants)
            wishes = {wish for wish, _ in steady[1]}
            unwanted = [place for place in range(40) if place not in wishes]
            self.assertEqual(len(unwanted), fewest(web) - len(web[1]) + 40)


class Bounds(unittest.TestCase):
    def test_sixteen_and_seventeen_with_plain_stars(self):
        # PLACES 16 and 17 are doubled: their STARS are not plain.
        web = (18, ((16, 17), (17, 16)) + tuple((k, k + 1) for k in range(0, 16, 2)))
        self.assertEqual((most_some_want(web), len(stars_apart(web))), (0, 8))
        self.assertIs(is_stars_apart(web, (0, 2, 4, 6, 8, 10, 12, 14)), True)
        more = (19, web[1])
        for told in SEARCHING:
            self.assertRaises(TooMany, told, more)
        for thing in ((), (0, 2), None, "a", (5000,)):
            self.assertRaises(TooMany, is_stars_apart, more, thing)
        # Just the unwanted ones count here: nine of 19.
        self.assertIs(is_steady(more), True)
        self.assertIs(is_steady(with_wants(more, steady_wants(more))), True)

    def test_seventeen_unwanted(self):
        self.assertIs(is_steady((16, ())), True)
        self.assertRaises(TooMany, is_steady, (17, ()))
        web = (40, tuple((own, own + 1) for own in range(20)))
        self.assertRaises(TooMany, is_steady, web)
        self.assertEqual(len(steady_wants(web)), 20)
        self.assertEqual((can_some_want(web, ()), can_all_want(web, ())), (True, True))
        self.assertIs(is_wants_for(web, (), wants_for(web, ())), True)

    def test_nobody(self):
        for many in (1, 16):
            web = (many, ())
            self.assertEqual((most_some_want(web), stars_apart(web), wants_for_most(web)), (0, tuple(range(many)), ()))
            self.assertEqual((is_steady(web), steady_wants(web), wants_for(web, ())), (True, (), ()))
            self.assertEqual((can_some_want(web, ()), can_all_want(web, ())), (True, True))
            self.assertRaises(CanNot, wants_against, web, ())
        self.assertEqual((steady_wants((40, ())), can_all_want((40, ()), ())), ((), True))

    def test_forty_guests(self):
        crowd = (2, ((0, 1), (1, 0)) * 20)
        self.assertEqual((most_some_want(crowd), stars_apart(crowd), is_steady(crowd)), (38, (), True))
        self.assertEqual(can_all_want(crowd, tuple(range(2, 40))), True)
        self.assertEqual(can_some_want(crowd, tuple(range(1, 40))), False)
        self.assertEqual(can_some_want(crowd, ()), False)


class Refusals(unittest.TestCase):
    def test_no_webs(self):
        for wrong in NO_WEBS:
            for told in SEARCHING + (is_steady, steady_wants):
                self.assertRaises(Unfit, told, wrong)
            for told in (can_some_want, can_all_want, wants_for, wants_against):
                self.assertRaises(Unfit, told, wrong, ())
            for thing in ((), None):
                self.assertRaises(Unfit, is_stars_apart, wrong, thing)
                self.assertRaises(Unfit, is_wants_for, wrong, (), thing)
                self.assertRaises(Unfit, is_wants_against, wrong, (), thing)

    def test_no_lots(self):
        for wrong in NO_LOTS:
            for told in (can_some_want, can_all_want, wants_for, wants_against):
                self.assertRaises(Unfit, told, HALL, wrong)
            for thing in ((0, 0, 0, 0, 0), None):
                self.assertRaises(Unfit, is_wants_for, HALL, wrong, thing)
                self.assertRaises(Unfit, is_wants_against, HALL, wrong, thing)

    def test_things(self):
        row, lot = (6, tuple((k, k + 1) for k in range(5))), (2,)
        good, bad = wants_for(row, lot), wants_against(row, lot)
        self.assertEqual((is_wants_for(row, lot, good), is_wants_against(row, lot, bad)), (True, True))
        self.assertEqual((is_wants_for(row, lot, bad), is_wants_against(row, lot, good)), (False, False))
        for k, thing in enumerate(NO_WANTS + (list(good), list(bad))):
            with self.subTest(k):
                self.assertIs(is_wants_for(row, lot, thing), False)
                self.assertIs(is_wants_against(row, lot, thing), False)
        apart = stars_apart(HALL)
        self.assertIs(is_stars_apart(HALL, apart), True)
        for k, thing in enumerate(NOTHING_AT_ALL + (list(apart), apart + apart, apart[::-1] + (0,), (5,), (-1, 4), (True, 4))):
            with self.subTest(k):
                self.assertIs(is_stars_apart(HALL, thing), False)

    def test_lists(self):
        for lot in lots_of(HALL):
            self.assertIs(can_some_want(as_lists(HALL), list(lot)), can_some_want(HALL, lot))
        self.assertEqual(steady_wants(as_lists(HALL)), steady_wants(HALL))


if __name__ == "__main__":
    unittest.main()
