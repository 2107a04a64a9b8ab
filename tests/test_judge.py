"""[25], judge.py: DEMANDS, whether they stand, PAPERS against them and REASONS for them."""

import unittest
from itertools import product
from math import factorial

from examples import check_examples
from small import (
    NO_LOTS, NO_NUMBERS, NO_WEBS, NOTHING_AT_ALL, as_lists, as_mixed, few_webs, free_by_lot, great_webs, lacking_by_hand,
    lots_of, orders_by_outcome, orders_of, outcome_by_hand, rings_by_hand, seats_by_hand, sets_of, takings_of,
)

from leftwithout import errors, judge
from leftwithout.errors import TooMany, Unfit
from leftwithout.judge import first_fallen, is_demand, is_paper_against, is_reason_for, is_so, paper_against, reason_for
from leftwithout.lots import is_why_not
from leftwithout.most import fewest, most
from leftwithout.orders import how_many_orders, sizes_of
from leftwithout.together import is_why_never

EXAMPLES = r'''
>>> four, both = (4, ((0, 1), (2, 1), (2, 3), (0, 3))), (2, ((0, 1), (1, 0)))
>>> is_so(("without", four, (3,))), is_so(("without", four, (0, 1))), is_paper_against(("without", four, (0, 1)), (1,))
(True, False, True)
>>> is_reason_for(("without", four, (3,)), (0, 1, 2, 3)), is_reason_for(("without", four, (3,)), (3, 0, 1, 2)), is_so(("together", four, (0, 1)))
(True, False, False)
>>> is_so(("outcome", four, (0, 1, 2, 3))), is_paper_against(("outcome", four, (0, 1, 3, None)), ("lacking", 2)), is_paper_against(("outcome", both, (1, 0)), ("ring", (0, 1, 0)))
(True, True, True)
>>> is_so(("many", four, 1)), paper_against(("many", four, 2)), is_reason_for(("many", four, 1), (0, 1, 2, 3))
(True, 1, True)
>>> is_so(("orders", four, (0, 1, 2, 3), 6)), paper_against(("orders", four, (0, 1, 2, 3), 24)), reason_for(("orders", four, (0, 1, 2, 3), 6))
(True, 6, (2, 1, 2, 1))
>>> is_demand(("orders", four, (0, 2, 3, None), 3)), first_fallen((("many", four, 0), ("many", four, 2)))
(False, 1)
'''

HALL = (5, ((0, 1), (2, 1), (2, 0), (3, 1), (1, 3)))
FOUR, BOTH = (4, ((0, 1), (2, 1), (2, 3), (0, 3))), (2, ((0, 1), (1, 0)))
SMALL = few_webs(3, 3) + few_webs(4, 3)[::4] + few_webs(3, 4)[::9] + few_webs(4, 4)[::150]
ASKING = (is_so, paper_against, reason_for)
WITH_THING = (is_paper_against, is_reason_for)
TOO_WIDE = (17, ())

# One of each kind that stands, one that does not.
STANDING = (
    ("without", FOUR, (3,)), ("together", FOUR, (3,)), ("outcome", FOUR, (0, 1, 2, 3)), ("many", FOUR, 1),
    ("orders", FOUR, (0, 1, 2, 3), 6),
)
FALLEN = (
    ("without", FOUR, (0, 1)), ("together", FOUR, (0, 1)), ("outcome", BOTH, (1, 0)), ("many", FOUR, 2),
    ("orders", FOUR, (0, 1, 2, 3), 24),
)

NO_DEMANDS = NOTHING_AT_ALL + (
    (), ("without",), ("without", HALL), ("without", HALL, (1,), 0), ("many", HALL, 0, 0, 0), ("Without", HALL, ()),
    ("orders", BOTH, (0, 1), 2, 2, 2), ("with", HALL, ()), (0, HALL, ()),
    (None, HALL, ()), (["many"], HALL, 0), (("many",), HALL, 0), ("many", HALL), ("many", HALL, 0, 0), ("many", HALL, -1),
    ("many", HALL, ()), ("together", HALL), ("together", HALL, 0), ("outcome", HALL, None), ("outcome", HALL, ()),
    ("outcome", HALL, (None,) * 4), ("outcome", HALL, (0, 0, None, None, None)), ("outcome", BOTH, (0, 1), 1),
    ("orders", BOTH, (0, 1)), ("orders", BOTH, (0, 1), 2, 2), ("orders", BOTH, (0, 1), -1), ("orders", BOTH, (0, 1), None),
    ("orders", BOTH, (1, 0), 1), ("orders", BOTH, (None, None), 1), ("orders", BOTH, (0, None), 0), ("orders", BOTH, (0, True), 2),
    ("orders", HALL, (0, None, 2, 3, 1), 40), ("orders", BOTH, (0, 1), True), ("many", BOTH, False), ("orders", BOTH, None, 1),
    ("without", HALL, (0,), ()), "without", ("orders", FOUR, (0, 2, 3, None), 3),
) + tuple((kind, web, own) for kind, own in (("without", ()), ("together", ()), ("outcome", ()), ("many", 0)) for web in NO_WEBS) + (
    tuple((kind, HALL, lot) for kind in ("without", "together") for lot in NO_LOTS)
) + tuple(("many", HALL, number) for number in NO_NUMBERS) + tuple(("orders", BOTH, (0, 1), number) for number in NO_NUMBERS)


def gone_by_hand(web, order):
    return tuple(sorted(guest for guest, place in seats_by_hand(web, order) if place is None))


def cases_by_hand(web, taking):
    """All CASES of the TAKING."""
    return {*[("lacking", guest) for guest in lacking_by_hand(web, taking)], *[("ring", own) for own in rings_by_hand(web, taking)]}


def demands_of(web):
    """DEMANDS of the WEB: all with a LOT, a TAKING or a number that is not too great."""
    for lot in lots_of(web):
        yield "without", web, lot
        yield "together", web, lot
    for taking in takings_of(web):
        yield "outcome", web, taking
    for number in range(len(web[1]) + 2):
        yield "many", web, number
    for outcome, orders in orders_by_outcome(web).items():
        if None not in outcome:
            for number in {0, 1, len(orders), len(orders) + 1}:
                yield "orders", web, outcome, number


def reasons_by_hand(demand):
    """All REASONS for the DEMAND, by all ORDERS of the WEB."""
    kind, web, told = demand[:3]
    if kind == "orders":
        return {sizes_of(web, told)} if len(orders_by_outcome(web)[told]) == demand[3] else set()
    if kind == "outcome":
        return {*orders_by_outcome(web).get(told, ())}
    gone = {order: gone_by_hand(web, order) for order in orders_of(web)}
    if kind == "without":
        return {order for order, own in gone.items() if own == told}
    if kind == "together":
        return {order for order, own in gone.items() if {*told} <= {*own}}
    return {order for order, own in gone.items() if len(own) >= told}


def papers_by_hand(demand):
    """All PAPERS against the DEMAND; of those that are PARTS what the functions named by the document take."""
    kind, web, told = demand[:3]
    if kind == "without":
        return {part for part in sets_of(web[0]) if is_why_not(web, told, part)}
    if kind == "together":
        return {part for part in sets_of(web[0]) if is_why_never(web, told, part)}
    if kind == "outcome":
        return cases_by_hand(web, told)
    if kind == "many":
        greatest = max(len(lot) for lot in free_by_lot(web))
        return {greatest} if greatest < told else set()
    count = len(orders_by_outcome(web)[told])
    return {count} if count != demand[3] else set()


class Examples(unittest.TestCase):
    def test_examples(self):
        check_examples(self, {**vars(errors), **vars(judge)}, EXAMPLES)


class ByAllOrders(unittest.TestCase):
    """The answers beside all ORDERS of small WEBS, run one after another."""

    def test_stands_or_has_a_paper(self):
        for web in SMALL:
            for demand in demands_of(web):
                reasons, papers = reasons_by_hand(demand), papers_by_hand(demand)
                stands = reasons != set()
                self.assertIs(papers == set(), stands)
                self.assertIs(is_demand(demand), True)
                self.assertIs(is_so(demand), stands)
                paper, reason = paper_against(demand), reason_for(demand)
                if stands:
                    self.assertIsNone(paper)
                    self.assertIn(reason, reasons)
                    self.assertIs(is_reason_for(demand, reason), True)
                else:
                    self.assertIsNone(reason)
                    self.assertIn(paper, papers)
                    self.assertIs(is_paper_against(demand, paper), True)
                self.assertIs(first_fallen((demand,)), None if stands else 0)

    def test_each_thing(self):
        for web in SMALL[::17]:
            things = {*orders_of(web), *sets_of(web[0]), *range(-1, 8), None, *product((1, 2, 3), repeat=len(web[1]))}
            things |= {case for taking in takings_of(web) for case in cases_by_hand(web, taking)}
            for demand in demands_of(web):
                reasons, papers = reasons_by_hand(demand), papers_by_hand(demand)
                for thing in things:
                    self.assertIs(is_reason_for(demand, thing), thing in reasons)
                    self.assertIs(is_paper_against(demand, thing), thing in papers)

    def test_first_fallen(self):
        for count in range(4):
            for own in product((STANDING[0], STANDING[4], FALLEN[1], FALLEN[3]), repeat=count):
                told = [demand in FALLEN for demand in own]
                self.assertEqual(first_fallen(own), told.index(True) if True in told else None)
                self.assertEqual(first_fallen(as_lists(own)), first_fallen(own))
        self.assertIsNone(first_fallen(STANDING * 50))
        self.assertEqual(first_fallen(STANDING * 50 + FALLEN), 250)
        self.assertIsNone(first_fallen(()))
        self.assertIsNone(first_fallen([]))


class GreatWebs(unittest.TestCase):
    def check(self, demand, stands):
        self.assertIs(is_demand(demand), True)
        self.assertIs(is_so(demand), stands)
        self.assertIs(paper_against(demand) is None, stands)
        self.assertIs(reason_for(demand) is None, not stands)
        self.assertIs(is_reason_for(demand, reason_for(demand)), stands)
        self.assertIs(is_paper_against(demand, paper_against(demand)), not stands)

    def test_each_kind(self):
        for web in great_webs(40, 24, 30):
            everybody = tuple(range(len(web[1])))
            gone = gone_by_hand(web, everybody)
            outcome = outcome_by_hand(web, everybody)
            self.check(("without", web, gone), True)
            self.check(("together", web, gone[:-1]), True)
            self.check(("together", web, everybody), False)
            self.check(("without", web, everybody), False)
            self.check(("outcome", web, outcome), True)
            self.check(("outcome", web, (None,) * len(web[1])), False)
            try:
                greatest = most(web)
            except TooMany:
                continue
            for number in {0, fewest(web), greatest}:
                self.check(("many", web, number), True)
            self.check(("many", web, greatest + 1), False)
            self.assertEqual(paper_against(("many", web, 10 ** 6)), greatest)
            if None not in outcome:
                count = how_many_orders(web, outcome)
                self.check(("orders", web, outcome, count), True)
                self.check(("orders", web, outcome, count + 1), False)

    def test_forty(self):
        web = (40, tuple((k, (k + 1) % 40) for k in range(40)))
        outcome = tuple(range(40))
        self.check(("orders", web, outcome, factorial(40)), True)
        self.check(("orders", web, outcome, 10 ** 48), False)
        self.check(("orders", web, outcome, 0), False)
        self.assertEqual(reason_for(("orders", web, outcome, factorial(40))), (1,) * 40)
        self.assertEqual(paper_against(("orders", web, outcome, 10 ** 48)), factorial(40))
        self.check(("outcome", web, outcome[1:] + (0,)), False)
        self.assertEqual(paper_against(("outcome", web, outcome[1:] + (0,)))[0], "ring")

    def test_nobody(self):
        for many in (1, 16):
            web = (many, ())
            for demand in (("without", web, ()), ("together", web, ()), ("outcome", web, ()), ("many", web, 0), ("orders", web, (), 1)):
                self.check(demand, True)
                self.assertEqual(reason_for(demand), ())
            self.check(("many", web, 1), False)
            self.check(("orders", web, (), 0), False)
            self.assertEqual((paper_against(("many", web, 1)), paper_against(("orders", web, (), 2))), (0, 1))


class TooWide(unittest.TestCase):
    def test_too_many_to_search(self):
        for number in (0, 1, 10 ** 6):
            demand = ("many", TOO_WIDE, number)
            self.assertIs(is_demand(demand), True)
            for told in ASKING:
                self.assertRaises(TooMany, told, demand)
                self.assertRaises(TooMany, told, as_lists(demand))
            for told in WITH_THING:
                for thing in ((), 0, None, "a", [], (0, 1), True):
                    self.assertRaises(TooMany, told, demand, thing)

    def test_first_fallen_when_it_comes_to_it(self):
        wide = ("many", TOO_WIDE, 0)
        self.assertEqual(first_fallen((STANDING[0], FALLEN[1], wide)), 1)
        self.assertRaises(TooMany, first_fallen, (STANDING[0], wide, FALLEN[1]))
        self.assertRaises(TooMany, first_fallen, (wide,))
        self.assertRaises(Unfit, first_fallen, (FALLEN[0], wide, ("many", TOO_WIDE, -1)))

    def test_other_kinds_are_told(self):
        for demand in (("without", TOO_WIDE, ()), ("together", TOO_WIDE, ()), ("outcome", TOO_WIDE, ()), ("orders", TOO_WIDE, (), 1)):
            self.assertIs(is_so(demand), True)
        # Fifteen GUESTS with nobody WITHOUT are counted, too.
        web = (30, tuple((2 * k, 2 * k + 1) for k in range(15)))
        self.assertIs(is_so(("orders", web, tuple(range(0, 30, 2)), factorial(15))), True)


class Refusals(unittest.TestCase):
    def test_no_demands(self):
        for k, wrong in enumerate(NO_DEMANDS):
            with self.subTest(k):
                self.assertIs(is_demand(wrong), False)
                for told in ASKING:
                    self.assertRaises(Unfit, told, wrong)
                for told in WITH_THING:
                    for thing in ((0, 1, 2, 3), None):
                        self.assertRaises(Unfit, told, wrong, thing)
                self.assertRaises(Unfit, first_fallen, (wrong,))
                self.assertRaises(Unfit, first_fallen, FALLEN + (wrong,))

    def test_no_tuples_of_demands(self):
        for wrong in NOTHING_AT_ALL + (STANDING[0], (STANDING, FALLEN), (STANDING[0], None)):
            self.assertRaises(Unfit, first_fallen, wrong)

    def test_lists_are_no_demands_but_may_be_handed_in(self):
        for demand in STANDING + FALLEN:
            for change in (as_lists, as_mixed, lambda value: as_mixed(value, 1)):
                self.assertIs(is_demand(change(demand)), False)
                for told in ASKING:
                    self.assertEqual(repr(told(change(demand))), repr(told(demand)))
                for told in WITH_THING:
                    for thing in (paper_against(demand), reason_for(demand)):
                        self.assertIs(told(change(demand), thing), told(demand, thing))
                        self.assertIs(told(demand=change(demand), thing=thing), told(demand, thing))

    def test_things(self):
        for demand in STANDING:
            reason = reason_for(demand)
            self.assertIs(is_reason_for(demand, reason), True)
            for thing in NOTHING_AT_ALL + (list(reason), reason[:-1], reason + (0,), (True,) + reason[1:], reason[:3] + (True,), 0, (), [[]]):
                self.assertIs(is_reason_for(demand, thing), False)
                self.assertIs(is_paper_against(demand, thing), False)
        for demand in FALLEN:
            paper = paper_against(demand)
            self.assertIs(is_paper_against(demand, paper), True)
            for thing in NOTHING_AT_ALL + (as_lists((paper,))[0:1], (paper,), [paper], 0, 1.0, True, (), [[]]):
                if thing != paper or isinstance(thing, (bool, float)):
                    self.assertIs(is_paper_against(demand, thing), False)
                self.assertIs(is_reason_for(demand, thing), False)


if __name__ == "__main__":
    unittest.main()
