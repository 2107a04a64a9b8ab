"""[3], [11], takings.py: TAKINGS, their ARROWS, who is lacking somebody, which are OUTCOMES."""

import unittest
from itertools import product

from examples import check_examples
from small import (
    NO_NUMBERS, NO_ORDERS, NO_WEBS, NOTHING_AT_ALL, arrows_by_hand, few_webs, great_webs, lacking_by_hand, orders_by_outcome,
    orders_of, outcome_by_hand, rings_by_hand, small_webs, takings_of,
)

from leftwithout import errors, takings
from leftwithout.errors import CanNot, NoGuest, NoPlace, Unfit
from leftwithout.takings import (
    arrows, behind_whom, holder, is_order_of, is_outcome, is_sound, is_taking, lacking, order_of,
)

EXAMPLES = r'''
>>> small, table = (3, ((0, 1), (0, 1), (1, 2))), (2, ((0, 1), (1, 0)))
>>> is_taking(small, (0, 1, 2)), is_taking(small, (0, None, 1)), is_taking(small, (0, 0, 1)), is_taking(small, (2, 0, 1)), is_taking(small, [0, 1, 2]), is_taking((1, ()), ())
(True, True, False, False, False, True)
>>> arrows(small, (0, 1, 2)), arrows(small, (0, None, 1)), arrows(table, (1, 0)), arrows(small, (1, None, 2))
(((0, 1), (1, 2)), ((0, 1), (2, 1)), ((0, 1), (1, 0)), ((0, 1), (0, 2)))
>>> lacking(small, (1, None, 2)), lacking(small, (0, 1, 2)), is_sound(table, (1, 0)), is_sound(small, (None, None, None)), holder(small, (1, None, 2), 1), holder(small, (1, None, 2), 0)
((0, 1), (), True, False, 0, None)
>>> [is_outcome(small, own) for own in ((0, 1, 2), (1, 0, 2), (0, None, 1), (1, 0, None), (0, None, 2))], is_outcome(table, (1, 0)), is_outcome((4, ()), ())
([True, True, True, False, False], False, True)
>>> order_of(small, (0, 1, 2)), [is_order_of(small, (0, None, 1), own) for own in ((0, 2, 1), (2, 0, 1), (0, 1, 2), (0, 2), [0, 2, 1])]
((0, 1, 2), [True, True, False, False, False])
>>> behind_whom(small, (0, 1, 2), 2), behind_whom(small, (0, None, 1), 1), behind_whom(small, (0, None, 1), 0)
((0, 1), (0, 2), ())
>>> order_of(table, (1, 0))
raises CanNot()
>>> behind_whom(small, (0, 1, 2), 3)
raises NoGuest(guest=3)
'''

HALL = (5, ((0, 1), (2, 1), (2, 0), (3, 1), (1, 3)))
TABLE = (2, ((0, 1), (1, 0)))
STRAIGHT, CIRCLE = (40, tuple((k, k + 1) for k in range(39))), (40, tuple((k, (k + 1) % 40) for k in range(40)))


def webs_and_takings(webs):
    for web in webs:
        for taking in takings_of(web):
            yield web, taking


def goes_along(order, arrows):
    """Whether of each ARROW the first GUEST comes ahead of the later one."""
    return all(order.index(first) < order.index(later) for first, later in arrows)


class Examples(unittest.TestCase):
    def test_examples(self):
        check_examples(self, {**vars(errors), **vars(takings)}, EXAMPLES)


class Takings(unittest.TestCase):
    def test_each_tuple_of_places_and_none(self):
        for web in few_webs(3, 3):
            good = set(takings_of(web))
            for long in range(len(web[1]) + 2):
                for thing in product((None, *range(-1, web[0] + 1)), repeat=long):
                    self.assertIs(is_taking(web, thing), thing in good)

    def test_nobody_and_all(self):
        self.assertIs(is_taking((1, ()), ()), True)
        self.assertIs(is_taking(HALL, (None,) * 5), True)
        self.assertIs(is_taking(HALL, (0, 2, None, 3, 1)), True)
        self.assertIs(is_taking((40, tuple((k, (k + 1) % 40) for k in range(40))), tuple(range(40))), True)

    def test_no_takings(self):
        wrong = NOTHING_AT_ALL + (
            (), [], [None] * 5, (None,) * 4, (None,) * 6, (0, 2, None, 3, 3), (0, 2, 2, None, None), (4, None, None, None, None),
            (2, None, None, None, None), (False, None, None, None, None), (True, None, None, None, None),
            (0, 2, None, 3, True), ("0", None, None, None, None), (0.0, None, None, None, None),
            ((0,), None, None, None, None), ([0], None, None, None, None), (-5, None, None, None, None), (None,) * 1000,
        )
        for k, thing in enumerate(wrong):
            with self.subTest(k):
                self.assertIs(is_taking(HALL, thing), False)

    def test_no_web_whatever_thing_is(self):
        for web, thing in product(NO_WEBS, ((), (None,), None)):
            self.assertRaises(Unfit, is_taking, web, thing)


class WordForWord(unittest.TestCase):
    """What is told of each TAKING of small WEBS, beside what the document says of it."""

    def test_arrows(self):
        for web, taking in webs_and_takings(few_webs()):
            self.assertEqual(arrows(web, taking), tuple(sorted(arrows_by_hand(web, taking))))

    def test_lacking_and_sound(self):
        for web, taking in webs_and_takings(few_webs()):
            told = lacking_by_hand(web, taking)
            self.assertEqual(lacking(web, taking), told)
            self.assertIs(is_sound(web, taking), told == ())

    def test_holder(self):
        for web, taking in webs_and_takings(few_webs(3, 3)):
            for place in range(web[0]):
                have = [guest for guest, own in enumerate(taking) if own == place]
                self.assertEqual(holder(web, taking, place), have[0] if have else None)

    def test_how_many_one_is_behind(self):
        for web, taking in webs_and_takings(few_webs(3, 4)):
            told = arrows(web, taking)
            for guest, (wish, other) in enumerate(web[1]):
                most = {wish: 0, other: 1, None: 2}[taking[guest]]
                self.assertLessEqual(len([pair for pair in told if pair[1] == guest]), most)
                if taking[guest] is None:
                    self.assertEqual([pair for pair in told if pair[0] == guest], [])


class ByAllOrders(unittest.TestCase):
    """The answers beside all ORDERS of small WEBS, run one after another."""

    webs = few_webs() + few_webs(3, 5) + tuple(small_webs())

    def test_is_outcome(self):
        for web, taking in webs_and_takings(self.webs):
            self.assertIs(is_outcome(web, taking), taking in orders_by_outcome(web))

    def test_outcome_exactly_if_sound_and_without_a_ring(self):
        for web, taking in webs_and_takings(few_webs(4, 3) + few_webs(3, 4)):
            told = is_sound(web, taking) and not rings_by_hand(web, taking)
            self.assertIs(told, taking in orders_by_outcome(web))

    def test_order_of(self):
        for web, taking in webs_and_takings(self.webs):
            if taking in orders_by_outcome(web):
                self.assertIn(order_of(web, taking), orders_by_outcome(web)[taking])
            else:
                self.assertRaises(CanNot, order_of, web, taking)

    def test_is_order_of(self):
        for web in small_webs():
            for order in orders_of(web):
                outcome = outcome_by_hand(web, order)
                for taking in takings_of(web):
                    self.assertIs(is_order_of(web, taking, order), taking == outcome)

    def test_orders_are_those_along_the_arrows(self):
        for web in few_webs(3, 4):
            for outcome, orders in orders_by_outcome(web).items():
                told = arrows(web, outcome)
                self.assertEqual([order for order in orders_of(web) if goes_along(order, told)], list(orders))

    def test_behind_whom(self):
        for web, taking in webs_and_takings(few_webs(4, 3) + few_webs(3, 4)):
            orders = orders_by_outcome(web).get(taking)
            for guest in range(len(web[1])):
                if orders is None:
                    self.assertRaises(CanNot, behind_whom, web, taking, guest)
                else:
                    ahead = [{*order[:order.index(guest)]} for order in orders]
                    self.assertEqual(behind_whom(web, taking, guest), tuple(sorted(set.intersection(*ahead))))

    def test_each_wanted_place_is_taken_in_an_outcome(self):
        for web, taking in webs_and_takings(few_webs(3, 4)):
            if is_outcome(web, taking):
                for wish, _ in web[1]:
                    self.assertIsNotNone(holder(web, taking, wish))


class GreatWebs(unittest.TestCase):
    def test_outcomes_of_orders(self):
        for web in great_webs():
            everybody = tuple(range(len(web[1])))
            for order in (everybody, everybody[::-1], everybody[::2] + everybody[1::2]):
                outcome = outcome_by_hand(web, order)
                self.assertEqual((lacking(web, outcome), is_sound(web, outcome), is_outcome(web, outcome)), ((), True, True))
                self.assertIs(is_order_of(web, outcome, order), True)
                own = order_of(web, outcome)
                self.assertEqual((sorted(own), outcome_by_hand(web, own)), (list(everybody), outcome))
                told = arrows(web, outcome)
                self.assertEqual(told, tuple(sorted(arrows_by_hand(web, outcome))))
                self.assertTrue(goes_along(order, told) and goes_along(own, told))
                for first, later in told:
                    self.assertIn(first, behind_whom(web, outcome, later))
                    self.assertLess({*behind_whom(web, outcome, first)}, {*behind_whom(web, outcome, later)})

    def test_nobody_seated(self):
        for web in great_webs(10):
            nobody = (None,) * len(web[1])
            self.assertEqual((arrows(web, nobody), lacking(web, nobody)), ((), tuple(range(len(web[1])))))
            self.assertIs(is_outcome(web, nobody), False)

    def test_bounds(self):
        pushed = tuple(range(1, 40))
        self.assertEqual(lacking(STRAIGHT, pushed), (0,))
        self.assertEqual(arrows(STRAIGHT, pushed), tuple((k, k + 1) for k in range(38)))
        line = (40, ((1, 0),) + STRAIGHT[1][1:])
        self.assertEqual(lacking(line, (0,) + pushed[1:]), (0, 1))
        line = (40, ((0, 1),) + STRAIGHT[1][:38] + ((0, 39),))
        outcome = (0,) + tuple(range(1, 39)) + (39,)
        self.assertEqual(order_of(line, outcome), tuple(range(40)))
        self.assertEqual(behind_whom(line, outcome, 38), tuple(range(38)))
        self.assertEqual(behind_whom(line, outcome, 39), (0,))
        self.assertIs(is_sound(CIRCLE, tuple(range(1, 40)) + (0,)), True)
        self.assertIs(is_outcome(CIRCLE, tuple(range(1, 40)) + (0,)), False)
        self.assertIs(is_outcome(CIRCLE, tuple(range(40))), True)
        crowd = (2, ((0, 1), (1, 0)) * 20)
        last = (None,) * 38 + (0, 1)
        self.assertEqual(behind_whom(crowd, last, 0), (38, 39))
        self.assertEqual(order_of(crowd, last), (38, 39) + tuple(range(38)))

    def test_nobody(self):
        for web in ((1, ()), (40, ())):
            self.assertEqual((arrows(web, ()), lacking(web, ()), order_of(web, ()), holder(web, (), 0)), ((), (), (), None))
            self.assertEqual((is_sound(web, ()), is_outcome(web, ()), is_order_of(web, (), ())), (True, True, True))


class Refusals(unittest.TestCase):
    def test_no_orders(self):
        outcome = (0, None, 2, 3, 1)
        self.assertIs(is_order_of(HALL, outcome, (4, 2, 1, 0, 3)), True)
        for k, thing in enumerate(NO_ORDERS + ([4, 2, 1, 0, 3], (4, 2, True, 0, 3), (4, 2, 1, False, 3), (4, 2, 1, 0))):
            with self.subTest(k):
                self.assertIs(is_order_of(HALL, outcome, thing), False)

    def test_no_web_and_no_taking_whatever_thing_is(self):
        for thing in ((4, 2, 1, 0, 3), (), None, "a"):
            for wrong in NO_WEBS:
                self.assertRaises(Unfit, is_order_of, wrong, (), thing)
            for wrong in NOTHING_AT_ALL + ((), (None,) * 4, (0, None, 0, None, None)):
                self.assertRaises(Unfit, is_order_of, HALL, wrong, thing)

    def test_no_guest_ahead_of_can_not(self):
        for taking in ((1, 0), (None, None)):
            for guest in (2, -1, 10 ** 6):
                with self.subTest(taking=taking, guest=guest), self.assertRaises(NoGuest) as caught:
                    behind_whom(TABLE, taking, guest)
                self.assertEqual(caught.exception.guest, guest)
            self.assertRaises(CanNot, behind_whom, TABLE, taking, 1)
        for guest in NO_NUMBERS:
            self.assertRaises(Unfit, behind_whom, TABLE, (1, 0), guest)

    def test_no_place(self):
        for place in (2, -1, -2, 10 ** 6):
            with self.subTest(place), self.assertRaises(NoPlace) as caught:
                holder(TABLE, (1, 0), place)
            self.assertEqual(caught.exception.place, place)
        for place in NO_NUMBERS:
            self.assertRaises(Unfit, holder, TABLE, (1, 0), place)


if __name__ == "__main__":
    unittest.main()
