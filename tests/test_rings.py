"""[12], rings.py: RINGS, why a TAKING is no OUTCOME, one OUTCOME led to from another."""

import unittest
from itertools import combinations, permutations, product

from examples import check_examples
from small import (
    NO_WEBS, NOTHING_AT_ALL, few_webs, great_webs, in_itself, lacking_by_hand, nested, orders_by_outcome, orders_of,
    outcome_by_hand, rings_by_hand, takings_of,
)

from leftwithout import errors, rings as of_rings
from leftwithout.errors import CanNot, Unfit
from leftwithout.rings import (
    exchanges, is_led_to, is_ring, is_why_no_outcome, led_to, ring, rings, turned_ring, why_no_outcome,
)
from leftwithout.takings import is_sound, is_taking

EXAMPLES = r'''
>>> small, table = (3, ((0, 1), (0, 1), (1, 2))), (2, ((0, 1), (1, 0)))
>>> three = (3, ((0, 1), (1, 2), (2, 0)))
>>> rings(three, (1, 2, 0)), rings(three, (0, 1, 2)), rings(table, (1, 0))
([(0, 1, 2, 0)], [], [(0, 1, 0)])
>>> [is_ring(three, (1, 2, 0), own) for own in ((0, 1, 2, 0), (1, 2, 0, 1), (0, 2, 1, 0), (0, 1, 2), (0, 1, 2, 0, 1, 2, 0))]
[True, True, False, False, False]
>>> is_why_no_outcome(three, (1, 2, 0), why_no_outcome(three, (1, 2, 0))), is_why_no_outcome(small, (1, None, 2), ("lacking", 1)), is_why_no_outcome(small, (1, None, 2), ("lacking", 2)), is_why_no_outcome(table, (1, 0), ("ring", (1, 0, 1)))
(True, True, False, True)
>>> exchanges(small, (0, 1, 2), (2, 0, 1)), exchanges(small, (0, 1, 2), (2, 1, 0)), exchanges((1, ()), (), ())
(2, 3, 0)
>>> walk = ((0, 1, 2), (0, 2, 1))
>>> [is_led_to(small, (0, 1, 2), (0, None, 1), own) for own in (walk, walk[::-1], ((0, 1, 2), (2, 0, 1)), ())], is_led_to(small, (0, 1, 2), (0, 1, 2), ((0, 1, 2),))
([True, False, False, False], True)
>>> is_led_to(small, (1, 0, 2), (0, None, 1), led_to(small, (1, 0, 2), (0, None, 1))), turned_ring(three, (1, 2, 0), (0, 1, 2, 0))
(True, (0, 1, 2))
>>> ring(three, (0, 1, 2))
raises CanNot()
>>> led_to(table, (0, 1), (1, 0))
raises Unfit()
'''

SMALL, TABLE, THREE = (3, ((0, 1), (0, 1), (1, 2))), (2, ((0, 1), (1, 0))), (3, ((0, 1), (1, 2), (2, 0)))
# Two tables of two and one of three, and a guest behind the first one of them.
TABLES = (7, ((0, 1), (1, 0), (2, 3), (3, 2), (4, 5), (5, 6), (6, 4)))
TURNED = (1, 0, 3, 2, 5, 6, 4)
CIRCLE = (40, tuple((k, (k + 1) % 40) for k in range(40)))


def webs_and_takings(webs):
    for web in webs:
        for taking in takings_of(web):
            yield web, taking


def from_least_on(all_rings):
    return sorted(own for own in all_rings if own[0] == min(own))


def is_exchange(order, later):
    """Whether some two neighbours of the one ORDER, exchanged, make the other."""
    return any(order[:k] + (order[k + 1], order[k]) + order[k + 2:] == later for k in range(len(order) - 1))


def is_walk(web, outcome, goal, walk):
    if any(sorted(order) != list(range(len(web[1]))) for order in walk):
        return False
    steps = all(is_exchange(order, later) for order, later in zip(walk, walk[1:]))
    return steps and outcome_by_hand(web, walk[0]) == outcome and outcome_by_hand(web, walk[-1]) == goal


class Examples(unittest.TestCase):
    def test_examples(self):
        check_examples(self, {**vars(errors), **vars(of_rings)}, EXAMPLES)


class Rings(unittest.TestCase):
    def test_all_rings_of_small_webs(self):
        for web, taking in webs_and_takings(few_webs(4, 3) + few_webs(3, 4)):
            told = rings_by_hand(web, taking)
            self.assertEqual(rings(web, taking), from_least_on(told))
            if told:
                self.assertIn(ring(web, taking), told)
            else:
                self.assertRaises(CanNot, ring, web, taking)

    def test_rings_of_four(self):
        found = 0
        for web in product(((0, 1), (1, 0)), ((1, 2), (2, 1)), ((2, 3), (3, 2)), ((3, 0), (0, 3))):
            for taking in takings_of((4, web)):
                told = rings_by_hand((4, web), taking)
                found += len(told)
                self.assertEqual(rings((4, web), taking), from_least_on(told))
        self.assertGreater(found, 0)

    def test_is_ring(self):
        for web, taking in webs_and_takings(few_webs(3, 3)):
            told, count = rings_by_hand(web, taking), len(web[1])
            for long in range(count + 2):
                for thing in product(range(count), repeat=long):
                    self.assertIs(is_ring(web, taking, thing), thing in told)

    def test_in_a_ring_everybody_has_its_other_place_and_no_guest_is_of_two(self):
        for web, taking in webs_and_takings(few_webs(4, 4)):
            guests = [guest for own in rings(web, taking) for guest in own[1:]]
            self.assertEqual(len({*guests}), len(guests))
            for guest in guests:
                self.assertEqual(taking[guest], web[1][guest][1])

    def test_several_rings(self):
        self.assertEqual(rings(TABLES, TURNED), [(0, 1, 0), (2, 3, 2), (4, 5, 6, 4)])
        self.assertIn(ring(TABLES, TURNED), rings_by_hand(TABLES, TURNED))
        self.assertEqual(rings(TABLES, (0, 1, 3, 2, None, 6, None)), [(2, 3, 2)])
        # Who is behind a ring, or has None, is of none.
        behind = (5, ((0, 1), (1, 0), (1, 2), (2, 3), (0, 1)))
        self.assertEqual(rings(behind, (1, 0, 2, 3, None)), [(0, 1, 0)])
        for wrong in ((2, 3, 2), (0, 2, 0), (0, 1, 2, 0), (0, 4, 0), (4, 0, 4)):
            self.assertIs(is_ring(behind, (1, 0, 2, 3, None), wrong), False)

    def test_forty(self):
        taking = tuple(range(1, 40)) + (0,)
        told = tuple(range(40)) + (0,)
        self.assertEqual((rings(CIRCLE, taking), turned_ring(CIRCLE, taking, told)), ([told], tuple(range(40))))
        for k in range(40):
            self.assertIs(is_ring(CIRCLE, taking, told[k:] + told[1:k + 1]), True)
            self.assertIs(is_ring(CIRCLE, taking, told[:k] + told[k + 1:]), False)
        self.assertIs(is_ring(CIRCLE, taking, told[::-1]), False)
        self.assertIs(is_ring(CIRCLE, taking, told[:-1]), False)
        pairs = (40, ((0, 1), (1, 0)) + tuple((k ^ 0, k ^ 1) for k in range(2, 40)))
        taking = tuple(k ^ 1 for k in range(40))
        self.assertEqual(rings(pairs, taking), [(k, k + 1, k) for k in range(0, 40, 2)])

    def test_things_that_are_no_rings(self):
        self.assertIs(is_ring(TABLE, (1, 0), (0, 1, 0)), True)
        for k, thing in enumerate(NOTHING_AT_ALL + (
            (), (0,), (0, 1), (0, 0), (0, 0, 0), [0, 1, 0], (False, 1, 0), (0, True, 0), (0, 1, False), (0, 1, 0, 1, 0),
            (0, 1.0, 0), (0, "1", 0), ((0,), (1,), (0,)), (0, -1, 0), (-2, -1, -2), (-2, 1, -2), (0, 2, 0), (0, 1, -2), "010",
            (0, 1, 0) * 500, (0, (1,), 0), (10 ** 60, 1, 10 ** 60),
        )):
            with self.subTest(k):
                self.assertIs(is_ring(TABLE, (1, 0), thing), False)

    def test_turned_ring(self):
        for web, taking in webs_and_takings(few_webs(4, 3) + few_webs(3, 4)):
            for own in rings_by_hand(web, taking):
                told = turned_ring(web, taking, own)
                self.assertTrue(is_taking(web, told))
                for guest, place in enumerate(told):
                    self.assertEqual(place, web[1][guest][0] if guest in own else taking[guest])
                self.assertEqual(len(rings(web, told)), len(rings(web, taking)) - 1)

    def test_no_ring_to_turn(self):
        for k, wrong in enumerate(NOTHING_AT_ALL + ((), (0, 1), (0, 0, 0), [0, True, 0], (2, 0, 2), (0, 1, 0, 1, 0), (0, -1, 0))):
            with self.subTest(k):
                self.assertRaises(Unfit, turned_ring, TABLE, (1, 0), wrong)
                self.assertRaises(Unfit, turned_ring, TABLE, (0, 1), wrong)
        self.assertEqual(turned_ring(TABLE, (1, 0), [1, 0, 1]), (0, 1))


class Cases(unittest.TestCase):
    def test_why_no_outcome(self):
        for web, taking in webs_and_takings(few_webs(4, 3) + few_webs(3, 4)):
            told = [("lacking", guest) for guest in lacking_by_hand(web, taking)]
            told += [("ring", own) for own in rings_by_hand(web, taking)]
            self.assertIs(told == [], taking in orders_by_outcome(web))
            if told:
                self.assertIn(why_no_outcome(web, taking), told)
            else:
                self.assertRaises(CanNot, why_no_outcome, web, taking)
            if is_sound(web, taking):
                self.assertNotIn("lacking", [kind for kind, _ in told])

    def test_is_why_no_outcome(self):
        for web, taking in webs_and_takings(few_webs(3, 3)):
            lacking, found, count = lacking_by_hand(web, taking), rings_by_hand(web, taking), len(web[1])
            for guest in range(-1, count + 1):
                self.assertIs(is_why_no_outcome(web, taking, ("lacking", guest)), guest in lacking)
                self.assertIs(is_why_no_outcome(web, taking, ("ring", guest)), False)
            for long in range(count + 2):
                for thing in product(range(count), repeat=long):
                    self.assertIs(is_why_no_outcome(web, taking, ("ring", thing)), thing in found)
                    self.assertIs(is_why_no_outcome(web, taking, ("lacking", thing)), False)

    def test_a_ring_and_somebody_lacking_at_once(self):
        web, taking = (5, ((0, 1), (1, 0), (2, 3))), (1, 0, 3)
        for told in (("ring", (0, 1, 0)), ("ring", (1, 0, 1)), ("lacking", 2)):
            self.assertIs(is_why_no_outcome(web, taking, told), True)
        self.assertIn(why_no_outcome(web, taking), (("ring", (0, 1, 0)), ("ring", (1, 0, 1)), ("lacking", 2)))

    def test_things_that_are_no_cases(self):
        web, taking = (5, ((0, 1), (1, 0), (2, 3))), (1, 0, 3)
        for k, thing in enumerate(NOTHING_AT_ALL + (
            (), ("lacking",), ("lacking", 2, 2), ["lacking", 2], ("lacking", True), ("lacking", 2.0), ("lacking", "2"),
            ("lacking", (2,)), ("lacking", None), ("lacking", -1), ("lacking", 3), ("lacking", 0), ("Lacking", 2),
            ("lack", 2), (2, "lacking"), (b"lacking", 2), "lacking", ("ring", [0, 1, 0]), ["ring", (0, 1, 0)],
            ("ring", (0, True, 0)), ("ring", 0, 1, 0), ("ring", (0, 1)), ("ring", ()), ("ring", None), ("rings", (0, 1, 0)),
            ("ring", ("ring", (0, 1, 0))), (("ring",), (0, 1, 0)), ("ring", (0, 2, 0)), ("ring", nested(5000)),
            (nested(5000), (0, 1, 0)), ("ring", in_itself()), (in_itself(), 2), ("lacking", in_itself()),
        )):
            with self.subTest(k):
                self.assertIs(is_why_no_outcome(web, taking, thing), False)
        # A lacking GUEST 1 is not told by True.
        self.assertIs(is_why_no_outcome(SMALL, (1, None, 2), ("lacking", 1)), True)
        self.assertIs(is_why_no_outcome(SMALL, (1, None, 2), ("lacking", True)), False)


class Walks(unittest.TestCase):
    def test_exchanges(self):
        for count in range(5):
            web = (2, ((0, 1),) * count)
            for order, other in product(permutations(range(count)), repeat=2):
                told = 0
                for one, two in combinations(range(count), 2):
                    told += (order.index(one) < order.index(two)) != (other.index(one) < other.index(two))
                self.assertEqual(exchanges(web, order, other), told)

    def test_exchanges_are_the_fewest(self):
        web = (2, ((0, 1),) * 4)
        for start in ((0, 1, 2, 3), (2, 0, 3, 1)):
            far, ahead = {start: 0}, [start]
            for order in ahead:
                for k in range(3):
                    later = order[:k] + (order[k + 1], order[k]) + order[k + 2:]
                    if later not in far:
                        far[later] = far[order] + 1
                        ahead.append(later)
            self.assertEqual(len(far), 24)
            for order, steps in far.items():
                self.assertEqual(exchanges(web, start, order), steps)
                self.assertEqual(exchanges(web, order, start), steps)

    def test_exchanges_of_forty(self):
        everybody = tuple(range(40))
        self.assertEqual(exchanges(CIRCLE, everybody, everybody[::-1]), 780)
        self.assertEqual(exchanges(CIRCLE, everybody, everybody), 0)
        self.assertEqual(exchanges(CIRCLE, everybody, everybody[1:] + (0,)), 39)

    def test_led_to(self):
        for web in few_webs(3, 4):
            for outcome, goal in product(orders_by_outcome(web), repeat=2):
                walk = led_to(web, outcome, goal)
                self.assertTrue(walk and is_walk(web, outcome, goal, walk))
                self.assertIs(is_led_to(web, outcome, goal, walk), True)

    def test_is_led_to(self):
        for web in few_webs(2, 3) + ((3, ((0, 1), (0, 1), (1, 2))), (3, ((1, 0), (1, 2), (0, 2)))):
            orders = list(orders_of(web))
            for outcome, goal in product(orders_by_outcome(web), repeat=2):
                self.assertIs(is_led_to(web, outcome, goal, ()), False)
                for long in (1, 2, 3):
                    for walk in product(orders, repeat=long):
                        self.assertIs(is_led_to(web, outcome, goal, walk), is_walk(web, outcome, goal, walk))

    def test_the_same_order_twice_is_no_step(self):
        self.assertIs(is_led_to(SMALL, (0, 1, 2), (0, 1, 2), ((0, 1, 2), (0, 1, 2))), False)
        self.assertIs(is_led_to((1, ()), (), (), ((),)), True)
        self.assertIs(is_led_to((1, ()), (), (), ((), ())), False)
        self.assertIs(is_led_to((1, ()), (), (), ()), False)
        self.assertIs(is_led_to((2, ((0, 1),)), (0,), (0,), ((0,),)), True)
        back = ((0, 1, 2), (1, 0, 2), (0, 1, 2))
        self.assertIs(is_led_to(SMALL, (0, 1, 2), (0, 1, 2), back), True)

    def test_things_that_are_no_walks(self):
        for k, thing in enumerate(NOTHING_AT_ALL + (
            [(0, 1, 2), (0, 2, 1)], ([0, 1, 2], [0, 2, 1]), ((0, 1, 2), [0, 2, 1]), ((0, 1, 2), (0, 2)), ((0, 1, 2), (0, 2, 2)),
            ((0, True, 2), (0, 2, 1)), ((0, 1, 2), (0, 2, True)), ((0, 1, 2), None, (0, 2, 1)), (0, 1, 2), ((0, 1, 2),),
            ((0, 1, 2), (0, 2, 1), ()), ((0, 1, 2), (0, 2, 3)), ("012", "021"), ((0, 1, 2), (2, 1, 0)), ((0, 2, 1),),
        )):
            with self.subTest(k):
                self.assertIs(is_led_to(SMALL, (0, 1, 2), (0, None, 1), thing), False)

    def test_great_webs(self):
        for web in great_webs(20):
            everybody = tuple(range(len(web[1])))
            outcome, goal = outcome_by_hand(web, everybody), outcome_by_hand(web, everybody[::-1])
            walk = led_to(web, outcome, goal)
            self.assertTrue(is_walk(web, outcome, goal, walk))
            self.assertIs(is_led_to(web, outcome, goal, walk), True)
            self.assertIs(is_led_to(web, outcome, goal, walk + walk[:1]), False)
            for told in (led_to(web, outcome, outcome), led_to(web, goal, outcome)):
                self.assertTrue(is_walk(web, outcome_by_hand(web, told[0]), outcome, told))


class Refusals(unittest.TestCase):
    def test_no_outcomes(self):
        takings = ((1, 0), (None, 1), (0, None), (None, None))
        for wrong in takings:
            self.assertRaises(Unfit, led_to, TABLE, wrong, (0, 1))
            self.assertRaises(Unfit, led_to, TABLE, (0, 1), wrong)
            for thing in (((0, 1),), (), None):
                self.assertRaises(Unfit, is_led_to, TABLE, wrong, (0, 1), thing)
                self.assertRaises(Unfit, is_led_to, TABLE, (0, 1), wrong, thing)

    def test_no_web_and_no_taking_whatever_thing_is(self):
        for thing in ((0, 1, 0), ("lacking", 0), (), None):
            for told in (is_ring, is_why_no_outcome):
                for wrong in NO_WEBS:
                    self.assertRaises(Unfit, told, wrong, (), thing)
                for wrong in NOTHING_AT_ALL + ((), (0,), (0, 0), (2, 0), [True, 0]):
                    self.assertRaises(Unfit, told, TABLE, wrong, thing)

    def test_nobody(self):
        for web in ((1, ()), (40, ())):
            self.assertEqual((rings(web, ()), led_to(web, (), ()), exchanges(web, (), ())), ([], ((),), 0))
            self.assertRaises(CanNot, ring, web, ())
            self.assertRaises(CanNot, why_no_outcome, web, ())
            self.assertRaises(Unfit, turned_ring, web, (), ())


if __name__ == "__main__":
    unittest.main()
