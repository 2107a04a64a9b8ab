"""[17], stars.py: STARS, CHOICES, which PLACES stay free together, and why not."""

import unittest
from itertools import combinations, product

from examples import check_examples
from small import (
    NO_ORDERS, NO_WEBS, NOTHING_AT_ALL, few_webs, free_by_lot, great_webs, orders_of, seats_by_hand, sets_of, small_webs,
)

from leftwithout import errors, stars
from leftwithout.errors import CanNot, NoPlace, TooMany, Unfit
from leftwithout.stars import (
    all_choices, can_stay_free, is_choice, is_order_free, is_plain, is_why_not_free, never_free, order_free, star,
    why_not_free,
)

EXAMPLES = r'''
>>> hoop, two = (3, ((0, 1), (2, 1), (2, 0))), (3, ((1, 0), (1, 0), (1, 2)))
>>> hub = (6, ((1, 0), (2, 0), (3, 0), (4, 3), (4, 5), (5, 2), (1, 2)))
>>> eight = (8, ((0, 1), (1, 2), (3, 2), (3, 4), (5, 4), (6, 5), (6, 7), (0, 7)))
>>> star(hoop, 1), star(hub, 0), is_plain(two, 0), is_plain(two, 2), star((2, ()), 1)
((0, 1, 2), (0, 1, 2, 3), False, True, (1,))
>>> [can_stay_free(hub, own) for own in ((), (0,), (4,), (0, 4))], [is_choice(eight, own) for own in ((2, 7), (2, 4), (7, 2), (0,))]
([True, True, False, False], [True, False, False, False])
>>> never_free(hub), never_free(two), never_free(hoop), all_choices(two), all_choices(eight)
((1, 2, 3, 4, 5), (0, 1), (0, 2), [(), (2,)], [(), (2,), (2, 7), (4,), (4, 7), (7,)])
>>> is_order_free(hoop, (1,), order_free(hoop, (1,))), [is_order_free(hoop, (1,), own) for own in ((0, 1, 2), (2, 0, 1), (0, 1))]
(True, [True, False, False])
>>> why_not_free(two, (0,)), why_not_free(eight, (2, 4)), is_why_not_free(two, (1, 2), ("wanted", 1, 2)), is_why_not_free(two, (1, 2), ("wanted", 2, 0))
(('twice', 0, 0, 1), ('near', 2, 4, 3), True, False)
>>> why_not_free(hoop, (1,))
raises CanNot()
>>> star(hoop, 3)
raises NoPlace(place=3)
>>> order_free(eight, (2, 4))
raises Unfit()
'''

HOOP, TWO = (3, ((0, 1), (2, 1), (2, 0))), (3, ((1, 0), (1, 0), (1, 2)))
EIGHT = (8, ((0, 1), (1, 2), (3, 2), (3, 4), (5, 4), (6, 5), (6, 7), (0, 7)))
HALL = (5, ((0, 1), (2, 1), (2, 0), (3, 1), (1, 3)))


def star_by_hand(web, place):
    return {place}.union(*[pair for pair in web[1] if place in pair])


def is_plain_by_hand(web, place):
    """Whether just one GUEST of the PLACE ends at each of the others."""
    others = [{*pair} - {place} for pair in web[1] if place in pair]
    return all(others.count({other}) == 1 for other in star_by_hand(web, place) - {place})


def is_choice_by_hand(web, places):
    wishes = {pair[0] for pair in web[1]}
    if any(place in wishes or not is_plain_by_hand(web, place) for place in places):
        return False
    return not any(star_by_hand(web, one) & star_by_hand(web, other) for one, other in combinations(places, 2))


def free_by_orders(web):
    """All sets of PLACES that some ORDER leaves free, and just these."""
    return {free for own in free_by_lot(web).values() for free in own}


def free_by_hand(web, order):
    taken = [place for _, place in seats_by_hand(web, order)]
    return {place for place in range(web[0]) if place not in taken}


def reasons_by_hand(web, places):
    """All REASONS, by going through all triples and quadruples of numbers."""
    found, guests, count = set(), web[1], range(len(web[1]))
    for place in places:
        found |= {("wanted", place, guest) for guest in count if guests[guest][0] == place}
        for one, other in product(count, repeat=2):
            if one < other and {*guests[one]} == {*guests[other]} and place in guests[one]:
                found.add(("twice", place, one, other))
        for other, common in product(places, range(web[0])):
            if place < other and common in star_by_hand(web, place) & star_by_hand(web, other):
                found.add(("near", place, other, common))
    return found


def webs_and_sets(webs):
    for web in webs:
        for places in sets_of(web[0]):
            yield web, places


SMALL = few_webs(4, 4) + few_webs(5, 2) + tuple(small_webs())


class Examples(unittest.TestCase):
    def test_examples(self):
        check_examples(self, {**vars(errors), **vars(stars)}, EXAMPLES)


class Stars(unittest.TestCase):
    def test_star_and_is_plain(self):
        for web in SMALL:
            for place in range(web[0]):
                self.assertEqual(star(web, place), tuple(sorted(star_by_hand(web, place))))
                self.assertIs(is_plain(web, place), is_plain_by_hand(web, place))

    def test_twice_the_same_ends_the_other_way_round(self):
        web = (3, ((0, 1), (1, 0), (0, 2)))
        self.assertEqual([is_plain(web, place) for place in range(3)], [False, False, True])
        self.assertEqual(star(web, 0), (0, 1, 2))

    def test_great_webs(self):
        for web in great_webs(20):
            for place in range(40):
                self.assertEqual(star(web, place), tuple(sorted(star_by_hand(web, place))))
                self.assertIs(is_plain(web, place), is_plain_by_hand(web, place))

    def test_nobody(self):
        self.assertEqual((star((1, ()), 0), is_plain((1, ()), 0), star((40, ()), 39)), ((0,), True, (39,)))


class Choices(unittest.TestCase):
    def test_is_choice(self):
        for web, places in webs_and_sets(SMALL):
            self.assertIs(is_choice(web, places), is_choice_by_hand(web, places))

    def test_what_orders_leave_free_is_a_choice_and_all_are(self):
        for web, places in webs_and_sets(few_webs(4, 4) + few_webs(3, 5)):
            told = any({*places} <= {*free} for free in free_by_orders(web))
            self.assertIs(is_choice_by_hand(web, places), told)
            self.assertIs(can_stay_free(web, places), told)

    def test_never_free(self):
        for web in SMALL:
            left = {place for free in free_by_orders(web) for place in free}
            self.assertEqual(never_free(web), tuple(place for place in range(web[0]) if place not in left))

    def test_all_choices(self):
        for web in SMALL:
            told = all_choices(web)
            self.assertIsInstance(told, list)
            self.assertEqual(told, sorted(places for places in sets_of(web[0]) if is_choice_by_hand(web, places)))

    def test_order_free(self):
        for web, places in webs_and_sets(SMALL):
            if is_choice_by_hand(web, places):
                order = order_free(web, places)
                self.assertEqual(sorted(order), list(range(len(web[1]))))
                self.assertLessEqual({*places}, free_by_hand(web, order))
                self.assertIs(is_order_free(web, places, order), True)
            else:
                self.assertRaises(Unfit, order_free, web, places)

    def test_is_order_free(self):
        for web, places in webs_and_sets(few_webs(4, 3) + few_webs(3, 4)):
            for order in orders_of(web):
                if is_choice_by_hand(web, places):
                    self.assertIs(is_order_free(web, places, order), {*places} <= free_by_hand(web, order))
                else:
                    self.assertRaises(Unfit, is_order_free, web, places, order)

    def test_subsets_of_choices_are_choices(self):
        for web in great_webs(10, 40, 16):
            wishes = {pair[0] for pair in web[1]}
            found = []
            for place in range(40):
                if place not in wishes and is_choice(web, tuple(found) + (place,)):
                    found.append(place)
            choice = tuple(found)
            self.assertTrue(is_choice_by_hand(web, choice))
            for step in (1, 2, 3):
                own = choice[::step]
                self.assertIs(can_stay_free(web, own), True)
                order = order_free(web, own)
                self.assertLessEqual({*own}, free_by_hand(web, order))
                self.assertIs(is_order_free(web, own, order), True)
            for place in {*range(40)} - {*choice}:
                self.assertIs(can_stay_free(web, tuple(sorted(choice + (place,)))), False)

    def test_guests_places_and_free_places_add_up(self):
        for web in great_webs(10):
            for places in [()] + [(place,) for place in range(40) if place not in never_free(web)]:
                told = seats_by_hand(web, order_free(web, places))
                gone, free = [guest for guest, place in told if place is None], free_by_hand(web, [own for own, _ in told])
                self.assertEqual(len(gone), len(web[1]) - 40 + len(free))
                self.assertTrue(is_choice(web, tuple(sorted(free))))


class HowManyChoices(unittest.TestCase):
    def near(self, at, count):
        """GUESTS from so many unwanted PLACES, from at + 1 on, to PLACE at: none of these beside another."""
        return tuple((at, at + 1 + k) for k in range(count))

    def chain(self, at):
        """Three unwanted PLACES, the middle one near the two others: five CHOICES."""
        return ((at, at + 2), (at, at + 3), (at + 1, at + 3), (at + 1, at + 4))

    def test_two_thousand_are_listed(self):
        web = (19, self.chain(0) + self.chain(5) + self.chain(10))
        told = all_choices(web)
        self.assertEqual((len(told), told), (2000, sorted({*told})))
        self.assertTrue(all(is_choice_by_hand(web, own) for own in told))

    def test_one_more_is_too_many(self):
        guests = self.near(0, 2) + self.near(3, 22) + self.near(26, 28)
        self.assertEqual(len(all_choices((26, guests[:24]))), 3 * 23)
        self.assertRaises(TooMany, all_choices, (55, guests))

    def test_bounds(self):
        self.assertEqual(len(all_choices((10, ()))), 1024)
        for many in (11, 40):
            self.assertRaises(TooMany, all_choices, (many, ()))
        everybody = tuple(range(40))
        self.assertEqual((is_choice((40, ()), everybody), order_free((40, ()), everybody), never_free((40, ()))), (True, (), ()))
        full = (40, tuple((k, (k + 1) % 40) for k in range(40)))
        self.assertEqual((all_choices(full), never_free(full)), ([()], everybody))
        self.assertEqual(all_choices((1, ())), [(), (0,)])

    def test_lists_are_new(self):
        all_choices(EIGHT).clear()
        self.assertEqual(len(all_choices(EIGHT)), 6)


class Reasons(unittest.TestCase):
    def test_why_not_free(self):
        for web, places in webs_and_sets(few_webs(4, 3) + few_webs(3, 4)):
            told = reasons_by_hand(web, places)
            self.assertIs(told == set(), is_choice_by_hand(web, places))
            if told:
                self.assertIn(why_not_free(web, places), told)
                self.assertIs(is_why_not_free(web, places, why_not_free(web, places)), True)
            else:
                self.assertRaises(CanNot, why_not_free, web, places)

    def test_is_why_not_free(self):
        for web, places in webs_and_sets(few_webs(3, 2) + few_webs(3, 3)[::4]):
            told, numbers = reasons_by_hand(web, places), range(-1, max(web[0], len(web[1])) + 1)
            for kind in ("wanted", "twice", "near"):
                for rest in list(product(numbers, repeat=2)) + list(product(numbers, repeat=3)):
                    thing = (kind,) + rest
                    self.assertIs(is_why_not_free(web, places, thing), thing in told)

    def test_great_webs(self):
        for web in great_webs(4, 40, 40):
            places = tuple(range(0, 40, 3))
            told = reasons_by_hand(web, places)
            self.assertIn(why_not_free(web, places), told)
            for thing in told:
                self.assertIs(is_why_not_free(web, places, thing), True)
        crowd = (40, ((0, 1), (1, 0)) * 20)
        self.assertIs(is_why_not_free(crowd, tuple(range(40)), ("twice", 1, 38, 39)), True)
        self.assertIs(is_why_not_free(crowd, tuple(range(40)), ("twice", 2, 38, 39)), False)

    def test_common_may_be_one_of_both(self):
        web = (3, ((0, 1), (2, 0)))
        for common, told in ((0, True), (1, True), (2, False)):
            self.assertIs(is_why_not_free(web, (0, 1), ("near", 0, 1, common)), told)
        self.assertIs(is_why_not_free(web, (0, 1), ("near", 1, 0, 0)), False)

    def test_things_that_are_no_reasons(self):
        self.assertIs(is_why_not_free(TWO, (0, 1), ("twice", 0, 0, 1)), True)
        for k, thing in enumerate(NOTHING_AT_ALL + (
            (), ("twice",), ("twice", 0, 0), ("twice", 0, 0, 1, 1), ["twice", 0, 0, 1], ("twice", False, 0, 1),
            ("twice", 0, False, 1), ("twice", 0, 0, True), ("twice", 0.0, 0, 1), ("twice", 0, 1, 0), ("twice", 0, 0, 0),
            ("twice", 0, (0, 1)), ("twice", (0, 0, 1)), ("Twice", 0, 0, 1), (0, 0, 1, "twice"), "twice", ("twice", 2, 0, 1),
            ("wanted", True, 2), ("wanted", 1), ("wanted", 1, 2, 2), ("wanted", 1, 3), ("wanted", 1, -1), ("wanted", 0, 0),
            ("near", 0, 1, True), ("near", 0, 1), ("near", 0, 1, 3), ("near", 0, 2, 1), ("near", 1, 0, 1), ("near", 0, 0, 0),
            (None, 0, 0, 1), ([], 0, 0, 1), ((), 0, 0, 1), ("twice", None, None, None), ("twice", "0", "0", "1"),
        )):
            with self.subTest(k):
                self.assertIs(is_why_not_free(TWO, (0, 1), thing), False)

    def test_a_choice_has_none(self):
        for places in ((), (2,)):
            for thing in (("wanted", 1, 0), ("twice", 0, 0, 1), ("near", 0, 1, 0), ("near", 2, 2, 2), ("wanted", 2, 2)):
                self.assertIs(is_why_not_free(TWO, places, thing), False)


class Refusals(unittest.TestCase):
    def test_things_that_are_no_choices(self):
        self.assertIs(is_choice(EIGHT, (2, 7)), True)
        for k, thing in enumerate(NOTHING_AT_ALL + (
            [2, 7], (7, 2), (2, 2), (2, 7, 7), (2, 8), (-1, 2), (2, True), (2.0, 7), (2, None), ("2", "7"), (2, (7,)), (1,), [],
            (2, 4), (10 ** 60,),
        )):
            with self.subTest(k):
                self.assertIs(is_choice(EIGHT, thing), False)
        self.assertIs(is_choice((2, ()), (0, 1)), True)
        for thing in ((False, 1), (0, True), (False,), (True,)):
            self.assertIs(is_choice((2, ()), thing), False)

    def test_no_sets_of_places(self):
        for k, wrong in enumerate(NOTHING_AT_ALL + ((1, 0), (0, 0), (3,), (-1,), [True], (0, None), (0, 3), "01", {0, 1})):
            with self.subTest(k):
                for told in (can_stay_free, why_not_free, order_free):
                    self.assertRaises(Unfit, told, HOOP, wrong)
                for told in (is_why_not_free, is_order_free):
                    for thing in ((0, 1, 2), ("wanted", 0, 0), None):
                        self.assertRaises(Unfit, told, HOOP, wrong, thing)

    def test_no_web_whatever_thing_is(self):
        for wrong in NO_WEBS:
            for thing in ((), (1,), None):
                self.assertRaises(Unfit, is_choice, wrong, thing)
                self.assertRaises(Unfit, is_order_free, wrong, (), thing)
                self.assertRaises(Unfit, is_why_not_free, wrong, (), thing)

    def test_no_choice_whatever_thing_is(self):
        for choice in ((0,), (2,), (0, 1), (0, 1, 2)):
            for thing in ((0, 1, 2), None, ()):
                self.assertRaises(Unfit, is_order_free, HOOP, choice, thing)

    def test_no_orders(self):
        self.assertIs(is_order_free(HALL, (4,), (0, 1, 2, 3, 4)), True)
        for k, thing in enumerate(NO_ORDERS + ([0, 1, 2, 3, 4], (0, 1, 2, 3), (False, 1, 2, 3, 4))):
            with self.subTest(k):
                self.assertIs(is_order_free(HALL, (4,), thing), False)

    def test_no_place(self):
        for place in (3, -1, -3, 10 ** 6):
            for told in (star, is_plain):
                with self.subTest(place), self.assertRaises(NoPlace) as caught:
                    told(HOOP, place)
                self.assertEqual(vars(caught.exception), {"place": place})


if __name__ == "__main__":
    unittest.main()
