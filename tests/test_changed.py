"""[8], changed.py: other names, two WEBS as one, a GUEST more or less, turned, kept."""

import unittest
from itertools import permutations, product

from examples import check_examples
from small import (
    NO_WEBS, NOTHING_AT_ALL, few_webs, free_by_lot, great_webs, lots_of, orders_of, outcome_by_hand, parts_by_hand,
    small_webs, takings_of,
)

from leftwithout import changed, errors
from leftwithout.changed import (
    guest_less, guest_more, kept_guests, put_beside, put_together, renamed, taking_renamed, turned,
)
from leftwithout.errors import NoGuest, NoPlace, Unfit
from leftwithout.lots import can_be_without
from leftwithout.runs import outcome_of
from leftwithout.webs import guests_at, is_web

EXAMPLES = r'''
>>> hall, bench = (3, ((0, 1), (2, 1), (2, 0))), (2, ((1, 0),))
>>> renamed(hall, (1, 2, 0), (2, 0, 1)), renamed(renamed(hall, (1, 2, 0), (2, 0, 1)), (2, 0, 1), (1, 2, 0)) == hall
((3, ((0, 2), (0, 1), (1, 2))), True)
>>> taking_renamed(hall, (0, 1, None), (1, 2, 0), (2, 0, 1)), taking_renamed((1, ()), (), (0,), ())
((2, None, 1), ())
>>> put_beside(hall, bench), put_together(hall, bench, 1, 1), put_together(hall, bench, 1, 0), put_beside((1, ()), (1, ()))
((5, ((0, 1), (2, 1), (2, 0), (4, 3))), (4, ((0, 1), (2, 1), (2, 0), (1, 3))), (4, ((0, 1), (2, 1), (2, 0), (3, 1))), (2, ()))
>>> guest_more(bench, (0, 1)), guest_less(hall, 1), guest_less(guest_more(hall, (1, 0)), 3) == hall
((2, ((1, 0), (0, 1))), (3, ((0, 1), (2, 0))), True)
>>> turned(hall, (0, 2)), turned(turned(hall, (0,)), (0,)) == hall, turned(hall, ()) == hall, kept_guests(hall, (0, 2)), kept_guests(hall, ())
((3, ((1, 0), (2, 1), (0, 2))), True, True, (3, ((0, 1), (2, 0))), (3, ()))
>>> guest_less(bench, 1)
raises NoGuest(guest=1)
>>> put_together(hall, bench, 3, 5)
raises NoPlace(place=3)
>>> renamed(bench, (0, 0), (0,))
raises Unfit()
'''

HALL, BENCH = (3, ((0, 1), (2, 1), (2, 0))), (2, ((1, 0),))


def namings(web):
    """All pairs of names for all PLACES, for all GUESTS."""
    return product(permutations(range(web[0])), permutations(range(len(web[1]))))


def way_back(names):
    return tuple(names.index(k) for k in range(len(names)))


def named_set(numbers, names):
    return tuple(sorted(names[k] for k in numbers))


class Examples(unittest.TestCase):
    def test_examples(self):
        check_examples(self, {**vars(errors), **vars(changed)}, EXAMPLES)


class Renamed(unittest.TestCase):
    def test_each_guest_has_its_ends_by_their_names(self):
        for web in few_webs(3, 3):
            for places, guests in namings(web):
                many, own = renamed(web, places, guests)
                self.assertEqual((many, len(own)), (web[0], len(web[1])))
                for guest, (wish, other) in enumerate(web[1]):
                    self.assertEqual(own[guests[guest]], (places[wish], places[other]))

    def test_outcomes_order_by_order(self):
        for web in few_webs(3, 3):
            for (places, guests), order in product(namings(web), orders_of(web)):
                own, taking = renamed(web, places, guests), outcome_by_hand(web, order)
                told = outcome_of(own, [guests[guest] for guest in order])
                self.assertEqual(taking_renamed(web, taking, places, guests), told)

    def test_takings_seat_by_seat(self):
        for web in few_webs(3, 3):
            for (places, guests), taking in product(namings(web), takings_of(web)):
                told = taking_renamed(web, taking, places, guests)
                self.assertEqual(len(told), len(web[1]))
                for guest, place in enumerate(taking):
                    self.assertEqual(told[guests[guest]], None if place is None else places[place])

    def test_lots_and_parts(self):
        for web in few_webs(3, 3):
            for places, guests in namings(web):
                own = renamed(web, places, guests)
                for lot in lots_of(web):
                    there = named_set(lot, guests)
                    self.assertIs(can_be_without(own, there), lot in free_by_lot(web))
                    told = tuple(sorted(named_set(part, places) for part in parts_by_hand(web, lot)))
                    self.assertEqual(parts_by_hand(own, there), told)

    def test_way_back(self):
        for web in few_webs(3, 3):
            for places, guests in namings(web):
                back = (way_back(places), way_back(guests))
                self.assertEqual(renamed(renamed(web, places, guests), *back), web)
                for taking in takings_of(web):
                    there = taking_renamed(web, taking, places, guests)
                    self.assertEqual(taking_renamed(renamed(web, places, guests), there, *back), taking)

    def test_forty(self):
        web = (40, tuple((k, k + 1) for k in range(39)) + ((39, 0),))
        places, guests = tuple(range(39, -1, -1)), tuple(range(1, 40)) + (0,)
        own = renamed(web, places, guests)
        self.assertEqual(own[1][:3], ((0, 39), (39, 38), (38, 37)))
        self.assertEqual(renamed(own, places, way_back(guests)), web)
        self.assertEqual(taking_renamed(web, tuple(range(40)), places, guests), (0,) + tuple(range(39, 0, -1)))
        self.assertEqual(renamed((1, ()), (0,), ()), (1, ()))


class TwoWebs(unittest.TestCase):
    def test_put_beside(self):
        for web, other in product(few_webs(3, 2), repeat=2):
            behind = tuple((wish + web[0], end + web[0]) for wish, end in other[1])
            self.assertEqual(put_beside(web, other), (web[0] + other[0], web[1] + behind))

    def test_lots_of_both_beside_one_another(self):
        for web, other in product(few_webs(3, 2), repeat=2):
            both, count = put_beside(web, other), len(web[1])
            told = {lot + tuple(count + guest for guest in own) for lot in free_by_lot(web) for own in free_by_lot(other)}
            self.assertEqual(set(free_by_lot(both)), told)
            for lot in lots_of(both):
                self.assertIs(can_be_without(both, lot), lot in told)

    def test_put_together(self):
        for web, other in product(few_webs(3, 2), repeat=2):
            for place, goal in product(range(web[0]), range(other[0])):
                many, guests = put_together(web, other, place, goal)
                self.assertTrue(is_web((many, guests)))
                self.assertEqual((many, len(guests)), (web[0] + other[0] - 1, len(web[1]) + len(other[1])))
                names = [web[0] + k - (k > goal) for k in range(other[0])]
                names[goal] = place
                behind = tuple((names[wish], names[end]) for wish, end in other[1])
                self.assertEqual(guests, web[1] + behind)

    def test_guests_of_both_end_where_they_are_put_together(self):
        for web, other in product(few_webs(3, 2), repeat=2):
            for place, goal in product(range(web[0]), range(other[0])):
                there = tuple(len(web[1]) + guest for guest in guests_at(other, goal))
                self.assertEqual(guests_at(put_together(web, other, place, goal), place), guests_at(web, place) + there)

    def test_one_place_alone(self):
        self.assertEqual(put_together(HALL, (1, ()), 2, 0), HALL)
        self.assertEqual(put_together((1, ()), HALL, 0, 0), HALL)
        self.assertEqual(put_together((1, ()), (1, ()), 0, 0), (1, ()))
        self.assertEqual(put_beside((1, ()), HALL), (4, ((1, 2), (3, 2), (3, 1))))

    def test_what_is_greater_than_the_bounds_comes_back_and_may_be_passed_in(self):
        web = (40, ((0, 39),) * 40)
        both = put_beside(web, web)
        self.assertEqual(both, (80, ((0, 39),) * 40 + ((40, 79),) * 40))
        self.assertEqual(put_together(both, both, 79, 79)[0], 159)
        self.assertEqual(put_beside(both, web)[0], 120)


class MoreAndLess(unittest.TestCase):
    def test_guest_more(self):
        for web in small_webs():
            for guest in permutations(range(web[0]), 2):
                more = guest_more(web, guest)
                self.assertEqual(more, (web[0], web[1] + (guest,)))
                self.assertEqual(guest_less(more, len(web[1])), web)

    def test_guest_less(self):
        for web in small_webs():
            for guest in range(len(web[1])):
                told = [pair for number, pair in enumerate(web[1]) if number != guest]
                self.assertEqual(guest_less(web, guest), (web[0], tuple(told)))

    def test_no_guest_to_add(self):
        wrong = NOTHING_AT_ALL + (
            (), [], (0,), (0, 1, 2), (0, 0), (2, 2), (0, 3), (3, 0), (-1, 0), (0, -1), (True, 0), (0, True), (0, None), "01",
            ((0,), 1), (0, "1"), {0: 1, 1: 0}, {0, 1},
        )
        for k, guest in enumerate(wrong):
            with self.subTest(k), self.assertRaises(Unfit):
                guest_more(HALL, guest)
        self.assertRaises(Unfit, guest_more, (1, ()), (0, 1))

    def test_no_guest_to_leave_out(self):
        for web, guest in ((HALL, 3), (HALL, -1), (HALL, 10 ** 6), ((1, ()), 0)):
            with self.subTest(guest), self.assertRaises(NoGuest) as caught:
                guest_less(web, guest)
            self.assertEqual(caught.exception.guest, guest)

    def test_turned(self):
        for web in small_webs():
            for lot in lots_of(web):
                told = tuple((end, wish) if guest in lot else (wish, end) for guest, (wish, end) in enumerate(web[1]))
                self.assertEqual(turned(web, lot), (web[0], told))
                self.assertEqual(turned(turned(web, lot), lot), web)
                for own in lots_of(web):
                    self.assertEqual(parts_by_hand(turned(web, lot), own), parts_by_hand(web, own))

    def test_kept_guests(self):
        for web in small_webs():
            for lot in lots_of(web):
                self.assertEqual(kept_guests(web, lot), (web[0], tuple(web[1][guest] for guest in lot)))

    def test_great_webs(self):
        for web in great_webs(5):
            lot = tuple(range(0, len(web[1]), 3))
            self.assertEqual(kept_guests(web, lot), (40, web[1][::3]))
            self.assertEqual(turned(turned(web, lot), lot), web)
            self.assertEqual(guest_less(guest_more(web, (39, 0)), len(web[1])), web)


class Refusals(unittest.TestCase):
    def test_names_that_are_not_all_each_once(self):
        wrong = NOTHING_AT_ALL + (
            (), (0, 1), (0, 1, 2, 3), (0, 0, 1), (0, 1, 1), (1, 2, 3), (-1, 0, 1), (0, 1, True), (False, 1, 2), (0, 1, None),
            (0, 1, "2"), "012", (0, 1, (2,)), {0: 0, 1: 1, 2: 2}, {0, 1, 2}, (0.0, 1, 2), range(3),
        )
        for k, names in enumerate(wrong):
            with self.subTest(k):
                self.assertRaises(Unfit, renamed, HALL, names, (0, 1, 2))
                self.assertRaises(Unfit, renamed, HALL, (0, 1, 2), names)
                self.assertRaises(Unfit, taking_renamed, HALL, (None,) * 3, names, (0, 1, 2))
                self.assertRaises(Unfit, taking_renamed, HALL, (None,) * 3, (0, 1, 2), names)

    def test_no_takings(self):
        wrong = NOTHING_AT_ALL + ((), (None,) * 2, (None,) * 4, (2, None, None), (0, None, 0), (0, True, None), (0, 1, False))
        for k, taking in enumerate(wrong):
            with self.subTest(k):
                self.assertRaises(Unfit, taking_renamed, HALL, taking, (0, 1, 2), (0, 1, 2))

    def test_place_ahead_of_goal(self):
        for place, goal, told in ((3, 5, 3), (-1, 0, -1), (2, 2, 2), (0, -1, -1), (0, 10 ** 6, 10 ** 6), (3, -4, 3)):
            with self.subTest(place=place, goal=goal), self.assertRaises(NoPlace) as caught:
                put_together(HALL, BENCH, place, goal)
            self.assertEqual(caught.exception.place, told)
        self.assertEqual(put_together(BENCH, HALL, 1, 2), (4, ((1, 0), (2, 3), (1, 3), (1, 2))))

    def test_unfit_ahead_of_no_place(self):
        for values in ((HALL, BENCH, 3, True), (HALL, BENCH, None, 2), (HALL, (0, ()), 3, 5), (None, BENCH, 3, 5)):
            with self.subTest(values):
                self.assertRaises(Unfit, put_together, *values)
        self.assertRaises(Unfit, guest_less, (0, ()), 3)
        self.assertRaises(Unfit, guest_less, HALL, True)

    def test_no_web_as_the_other(self):
        for k, wrong in enumerate(NO_WEBS):
            with self.subTest(k):
                self.assertRaises(Unfit, put_beside, HALL, wrong)
                self.assertRaises(Unfit, put_together, HALL, wrong, 0, 0)


if __name__ == "__main__":
    unittest.main()
