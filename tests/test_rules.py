"""[2] and [3]: what holds for every function that works on WEBS and WORDS.

Lists for tuples, names for positions, nothing handed in is changed, and
refusals in the order in which the document states them.
"""

import copy
import inspect
import unittest
from itertools import product

from small import (
    NO_LOTS, NO_NUMBERS, NO_ORDERS, NO_ROWS, NO_WANTS, NO_WEBS, NO_WORDS, NOTHING_AT_ALL, as_lists, as_mixed, nested,
)

from leftwithout import (
    anywants, changed, counts, judge, lots, most, moved, numbered, oneless, orders, parts, passes, rings, runs, stars,
    tables, takings, texts, together, wants, webs,
)
from leftwithout.errors import CanNot, NoGuest, NoPlace, TooMany, Unfit

HALL = (5, ((0, 1), (2, 1), (2, 0), (3, 1), (1, 3)))
LINE = (4, ((0, 1), (2, 1), (3, 2)))
BENCH = (3, ((1, 0), (1, 2), (1, 0)))

# Each function with the kinds of its arguments. Two kinds of one name are told
# apart by a word behind it: a goal is a place of the other web, an each a
# tuple of all numbers, a set a set of places, a pair a guest that is to come,
# a count a number from 0, a two a number from 2, any number fits as a number; a
# table is a word of two or more, with a taking of it, a row taking one of (2, 1).
FUNCTIONS = (
    (webs.sizes, ("web",)), (webs.unwanted, ("web",)), (webs.wanted, ("web", "guest")),
    (webs.other_end, ("web", "guest")), (webs.ends, ("web", "guest")), (webs.guests_at, ("web", "place")),
    (webs.wanting, ("web", "place")), (webs.beside, ("web", "place")), (webs.between, ("web", "place", "place")),
    (webs.line_of, ("word",)), (webs.table_of, ("word",)), (webs.word_of, ("web",)),
    (runs.seated, ("web", "row")), (runs.outcome_of, ("web", "order")), (runs.moments, ("web", "row")),
    (runs.free_places, ("web", "row")), (runs.without_of, ("web", "row")), (runs.pleased_of, ("web", "row")),
    (runs.next_seat, ("web", "row", "guest")), (runs.found_gone, ("web", "row")),
    (runs.is_row, ("web", "thing")), (runs.is_order, ("web", "thing")),
    (parts.is_lot, ("web", "thing")), (parts.others, ("web", "lot")), (parts.parts, ("web", "lot")),
    (parts.part_of, ("web", "lot", "place")), (parts.guests_of_part, ("web", "lot", "place")),
    (parts.kind_of_part, ("web", "lot", "place")), (parts.trees, ("web", "lot")),
    (parts.round_in, ("web", "lot", "place")), (parts.is_round, ("web", "lot", "thing")),
    (parts.most_seated, ("web", "lot")), (parts.can_all_sit, ("web", "lot")), (takings.is_taking, ("web", "thing")),
    (changed.renamed, ("web", "place each", "guest each")),
    (changed.taking_renamed, ("web", "taking", "place each", "guest each")), (changed.put_beside, ("web", "other web")),
    (changed.put_together, ("web", "other web", "place", "goal")), (changed.guest_more, ("web", "pair")),
    (changed.guest_less, ("web", "guest")), (changed.turned, ("web", "lot")), (changed.kept_guests, ("web", "lot")),
    (lots.can_be_without, ("web", "lot")), (lots.order_for, ("web", "lot")), (lots.is_order_for, ("web", "lot", "thing")),
    (lots.why_not, ("web", "lot")), (lots.is_why_not, ("web", "lot", "thing")), (lots.spare_places, ("web", "lot")),
    (lots.how_many_free, ("web", "lot")), (lots.order_leaving, ("web", "lot", "set")),
    (together.can_together, ("web", "lot")), (together.never_without, ("web",)), (together.rivals, ("web", "guest")),
    (together.lot_with, ("web", "lot")), (together.order_with, ("web", "lot")),
    (together.is_order_with, ("web", "lot", "thing")), (together.why_never, ("web", "lot")),
    (together.is_why_never, ("web", "lot", "thing")),
    (takings.arrows, ("web", "taking")), (takings.lacking, ("web", "taking")), (takings.is_sound, ("web", "taking")),
    (takings.holder, ("web", "taking", "place")), (takings.is_outcome, ("web", "taking")),
    (takings.order_of, ("web", "taking")), (takings.is_order_of, ("web", "taking", "thing")),
    (takings.behind_whom, ("web", "taking", "guest")),
    (rings.ring, ("web", "taking")), (rings.is_ring, ("web", "taking", "thing")), (rings.rings, ("web", "taking")),
    (rings.why_no_outcome, ("web", "taking")), (rings.is_why_no_outcome, ("web", "taking", "thing")),
    (rings.exchanges, ("web", "order", "order")), (rings.led_to, ("web", "outcome", "outcome")),
    (rings.is_led_to, ("web", "outcome", "outcome", "thing")), (rings.turned_ring, ("web", "taking", "ring")),
    (orders.sizes_of, ("web", "outcome")), (orders.how_many_orders, ("web", "outcome")),
    (orders.must_come_behind, ("web", "outcome", "guest")), (orders.fewest_ahead, ("web", "outcome", "guest")),
    (orders.most_ahead, ("web", "outcome", "guest")), (orders.can_come_first, ("web", "outcome")),
    (orders.can_come_last, ("web", "outcome")), (orders.how_many_first, ("web", "outcome", "guest")),
    (orders.how_many_last, ("web", "outcome", "guest")), (orders.how_many_ahead, ("web", "outcome", "guest", "guest")),
    (numbered.order_at, ("web", "outcome", "count")), (numbered.order_number, ("web", "outcome", "order")),
    (numbered.next_order, ("web", "outcome", "order")), (numbered.order_ahead, ("web", "outcome", "order")),
    (numbered.least_order, ("web", "outcome")), (numbered.greatest_order, ("web", "outcome")),
    (numbered.all_orders, ("web", "outcome")), (numbered.step_to, ("web", "outcome", "order", "order")),
    (oneless.less, ("web", "order", "guest")), (oneless.spare, ("web", "order", "guest")),
    (oneless.helped, ("web", "order", "guest")), (oneless.helpers, ("web", "order", "guest")),
    (oneless.harmless, ("web", "order")),
    (moved.moved_way, ("web", "order", "guest")), (moved.places_left, ("web", "order", "guest")),
    (moved.put_at, ("web", "order", "guest", "number")), (moved.lost_and_won, ("web", "order", "guest", "number")),
    (moved.latest, ("web", "order", "guest")),
    (stars.star, ("web", "place")), (stars.is_plain, ("web", "place")), (stars.is_choice, ("web", "thing")),
    (stars.all_choices, ("web",)), (stars.can_stay_free, ("web", "set")), (stars.never_free, ("web",)),
    (stars.order_free, ("web", "choice")), (stars.is_order_free, ("web", "choice", "thing")),
    (stars.why_not_free, ("web", "set")), (stars.is_why_not_free, ("web", "set", "thing")),
    (most.fewest, ("web",)), (most.most, ("web",)), (most.tree_parts, ("web",)), (most.greatest_choice, ("web",)),
    (most.fewest_order, ("web",)), (most.can_be_so_many, ("web", "number")), (most.lot_of, ("web", "number")),
    (most.order_so_many, ("web", "number")), (most.is_order_so_many, ("web", "number", "thing")),
    (counts.shares, ("web",)), (counts.chance, ("web", "guest")), (counts.by_without, ("web",)),
    (counts.free_orders, ("web",)), (counts.how_many_lots, ("web",)), (counts.lots, ("web",)),
    (counts.how_many_outcomes, ("web",)),
    (passes.line_orders, ("word",)), (passes.table_orders, ("table",)), (passes.line_lots, ("word",)),
    (passes.table_lots, ("table",)),
    (tables.nooks, ("table",)), (tables.can_at_table, ("table", "lot")), (tables.gaps, ("table", "lot")),
    (tables.order_at_table, ("table", "lot")), (tables.is_order_at_table, ("table", "lot", "thing")),
    (tables.closed_gap, ("table", "lot")), (tables.is_closed_gap, ("table", "lot", "thing")),
    (tables.most_at_table, ("table",)), (tables.lots_at_table, ("table",)), (tables.many_words, ("two", "lot")),
    (tables.word_for, ("two", "lot")), (tables.is_word_for, ("two", "lot", "thing")), (tables.fits, ("two",)),
    (texts.is_sheet, ("thing",)), (texts.sheet_text, ("sheet",)), (texts.web_text, ("web",)),
    (texts.picture, ("table", "table taking")),
    (wants.is_wants, ("web", "thing")), (wants.with_wants, ("web", "wants")),
    (wants.wants_fit, ("web", "row", "row taking", "wants")), (wants.can_be_seen, ("web", "row", "row taking")),
    (wants.how_many_wants, ("web", "row", "row taking")), (wants.sure_wants, ("web", "row", "row taking")),
    (wants.told_by, ("web", "row")), (wants.drains, ("web",)), (wants.most_told, ("web",)),
    (wants.telling_order, ("web",)), (wants.is_telling, ("web", "thing")),
    (anywants.can_some_want, ("web", "lot")), (anywants.can_all_want, ("web", "lot")),
    (anywants.wants_for, ("web", "lot")), (anywants.wants_against, ("web", "lot")),
    (anywants.is_wants_for, ("web", "lot", "thing")), (anywants.is_wants_against, ("web", "lot", "thing")),
    (anywants.most_some_want, ("web",)), (anywants.stars_apart, ("web",)), (anywants.is_stars_apart, ("web", "thing")),
    (anywants.wants_for_most, ("web",)), (anywants.is_steady, ("web",)), (anywants.steady_wants, ("web",)),
    (judge.is_demand, ("thing",)), (judge.is_so, ("demand",)), (judge.paper_against, ("demand",)),
    (judge.is_paper_against, ("demand", "thing")), (judge.reason_for, ("demand",)),
    (judge.is_reason_for, ("demand", "thing")), (judge.first_fallen, ("demands",)),
)

LISTS = (rings.rings, numbered.all_orders, oneless.less, stars.all_choices, counts.lots, wants.drains)

# One that fits the HALL, and BENCH as the other web.
FITS = {
    "web": HALL, "other web": BENCH, "word": (0, 1), "guest": 4, "place": 3, "goal": 1, "row": (2, 1),
    "order": (4, 2, 1, 0, 3), "lot": (1, 3), "taking": (0, 2, None, 1, 3), "place each": (4, 2, 0, 1, 3),
    "guest each": (1, 0, 2, 4, 3), "pair": (4, 0), "set": (4,), "thing": (0, 1), "outcome": (0, None, 2, 3, 1),
    "ring": (3, 4, 3), "count": 5, "number": 1, "choice": (4,), "table": (0, 1, 1, 0, 1), "two": 5,
    "table taking": (0, 2, None, 3, 4), "row taking": (None, 1, 2, None, None), "wants": (0, 1, 0, 0, 1),
    "sheet": (HALL, ((2, 1), ()), ((1, 3),)), "demand": ("without", HALL, (3,)),
    "demands": (("together", HALL, (3,)), ("many", HALL, 1), ("orders", LINE, (0, 2, 3), 6)),
}

GOOD = {
    "web": (HALL, LINE, (1, ()), (2, ((1, 0),))), "word": ((0, 1, 1), (1, 0)), "guest": (0, 2, 4), "place": (0, 2, 4),
    "row": ((), (2, 1), (0, 1, 2, 3, 4)), "order": ((4, 2, 1, 0, 3), (0, 1, 2), ()),
    "thing": ((), (0, 1), (0, 2, 1), ((0, 0), (1, 1))), "other web": (BENCH, (1, ())), "goal": (0, 1, 3),
    "lot": ((), (1,), (0, 2), (0, 1, 2, 3, 4)), "taking": ((), (1, None, 3), FITS["taking"]),
    "place each": (FITS["place each"], (3, 1, 0, 2), (0,)), "guest each": (FITS["guest each"], (1, 2, 0), ()),
    "pair": ((0, 1), (3, 0), (4, 2)), "set": ((), (4,), (0, 2)), "outcome": (FITS["outcome"], (0, 2, 3), (), (1,)),
    "ring": (FITS["ring"], (4, 3, 4), (0, 1, 0)), "count": (0, 1, 7), "number": (0, 1, 2, -1), "choice": ((), (4,), (1, 3), (0,)),
    "table": (FITS["table"], (1, 0), (0, 1, 1)), "two": (2, 3, 7), "table taking": (FITS["table taking"], (0, None), (1, 2, 0)),
    "row taking": (FITS["row taking"], (None, 1, None), ()), "wants": (FITS["wants"], (0, 1, 1), ()),
    "sheet": (FITS["sheet"], (LINE, (), ()), ((1, ()), ((),), ((), ()))),
    "demand": (
        FITS["demand"], ("without", HALL, (0, 1)), ("together", LINE, ()), ("outcome", HALL, FITS["outcome"]),
        ("outcome", LINE, (None, None, None)), ("many", HALL, 2), ("orders", LINE, (0, 2, 3), 5), ("many", (17, ()), 0),
    ),
    "demands": ((), FITS["demands"], (FITS["demand"], ("without", HALL, (0, 1)), FITS["demand"])),
}

NO_EACH = NOTHING_AT_ALL + ((), (0, 1, 2, 3), (1, 2, 3, 4, 5), [0, 0, 1, 2, 3], (0, 1, 2, 3, 4, 5), (0, True, 2, 3, 4))

NO_TAKINGS = NOTHING_AT_ALL + ((), (None,) * 4, (0, None, 0, None, None), [4, None, None, None, None])

UNFIT = {
    "web": NO_WEBS, "word": NO_WORDS, "guest": NO_NUMBERS, "place": NO_NUMBERS, "row": NO_ROWS, "order": NO_ORDERS,
    "lot": NO_LOTS, "other web": NO_WEBS, "goal": NO_NUMBERS, "place each": NO_EACH, "guest each": NO_EACH, "set": NO_LOTS,
    "taking": NO_TAKINGS, "outcome": NO_TAKINGS + ((None,) * 5, [0, 2, None, 1, 3], (0, 1, None, 3, None)),
    "ring": NOTHING_AT_ALL + ((), (3, 4), (3, 4, 4), (0, 1, 0), (3, 4, 3, 4, 3), [4, True, 4]), "count": NO_NUMBERS + (-1, -5),
    "number": NO_NUMBERS, "choice": NO_LOTS + ((0,), (3, 4), [4, 4]), "table": NO_WORDS + ((1,), [0]),
    "two": NO_NUMBERS + (1, 0, -2), "wants": NO_WANTS,
    "table taking": NO_TAKINGS + ((1, 2, 2, 3, 4), [2, None, None, None, None]),
    "row taking": NO_TAKINGS + ((0, 1, 2, None, None), [None, 1, 2, True, None], (None, 3, 2, None, None)),
    "sheet": NO_WEBS + ((HALL, ()), (HALL, ((1, 1),), ()), (HALL, (), ((2, 1),)), [HALL, [], [5]]),
    "demand": NO_WEBS + (("without", HALL), ("many", HALL, -1), ["outcome", HALL, [None]], ("lot", HALL, ())),
    "demands": NOTHING_AT_ALL + ((FITS["demand"], None), FITS["demand"], [("without", HALL, (5,))]),
    "pair": NOTHING_AT_ALL + ((), (0,), (1, 1), (0, 5), (-1, 0), [0, True], (0, 1, 2)),
}

NONE_OF_THE_WEB = {
    "guest": (NoGuest, (5, 9, -1, -5, 10 ** 6)), "place": (NoPlace, (5, 8, -1, -5, 10 ** 6)),
    "goal": (NoPlace, (3, 4, -1, -3, 10 ** 6)),
}


def answer(function, values, **names):
    """What the call gives, or the error that it raises, with what it keeps."""
    try:
        return ("value", function(*values, **names))
    except (CanNot, NoGuest, NoPlace, TooMany, Unfit) as error:
        return (error.__class__, vars(error))


def good_calls():
    for function, kinds in FUNCTIONS:
        for values in product(*[GOOD[kind] for kind in kinds]):
            yield function, kinds, values


def names_of(function):
    return tuple(inspect.signature(function).parameters)


class Arguments(unittest.TestCase):
    def same(self, first, later):
        self.assertEqual(first, later)
        # repr tells a list from a tuple and True from 1.
        self.assertEqual(repr(first), repr(later))

    def test_lists_for_tuples(self):
        for function, kinds, values in good_calls():
            for change in (as_lists, as_mixed, lambda value: as_mixed(value, 1)):
                lists = [own if kind == "thing" else change(own) for kind, own in zip(kinds, values)]
                self.same(answer(function, lists), answer(function, values))

    def test_by_names_in_any_order(self):
        for function, _, values in good_calls():
            told = dict(reversed(list(zip(names_of(function), values))))
            self.same(answer(function, (), **told), answer(function, values))
            rest = dict(zip(names_of(function)[1:], values[1:]))
            self.same(answer(function, values[:1], **rest), answer(function, values))

    def test_nothing_handed_in_is_changed(self):
        for function, _, values in good_calls():
            lists = [as_lists(own) for own in values]
            before = copy.deepcopy(lists)
            answer(function, lists)
            self.same(lists, before)

    def test_same_call_same_result(self):
        for function, _, values in good_calls():
            self.same(answer(function, values), answer(function, values))

    def test_what_is_handed_in_and_later_changed_changes_no_result(self):
        web, row, lot, places, outcome = as_lists(HALL), [2, 1], [0, 1, 2], [4, 3, 2, 1, 0], list(FITS["outcome"])
        order, choice, ones = [4, 2, 1, 0, 3], [4], [0, 1, 0, 0, 1]
        told = (
            webs.ends(web, 2), webs.word_of(as_lists(LINE)), runs.seated(web, row), runs.moments(web, row),
            parts.others(web, lot), parts.round_in(web, lot, 0), changed.renamed(web, places, places),
            changed.put_beside(web, web), changed.guest_more(web, row), changed.turned(web, []), together.lot_with(web, [2]),
            rings.why_no_outcome(web, [0, 2, None, 1, 3]), rings.led_to(web, outcome, outcome),
            numbered.all_orders(web, outcome), orders.can_come_last(web, outcome),
            oneless.less(web, order, 4), moved.put_at(web, order, 4, 2), stars.star(web, 1), stars.all_choices(web),
            stars.order_free(web, choice), most.tree_parts(web), most.greatest_choice(web),
            counts.shares(web), counts.lots(web), tables.gaps(ones, lot), texts.sheet_text([web, [row], [lot]]),
            wants.with_wants(web, ones), wants.drains(web), anywants.wants_for(web, [3]), anywants.stars_apart(web),
            judge.paper_against(["without", web, lot]), judge.reason_for(["many", web, 1]),
        )
        before = copy.deepcopy(told)
        web[1][2][0] = 4
        for own in (row, lot, places, outcome, order, choice, ones):
            own.append(0)
        self.same(told, before)

    def test_results_are_of_tuples(self):
        for function, kinds, values in good_calls():
            kind, told = answer(function, [own if name == "thing" else as_lists(own) for name, own in zip(kinds, values)])
            if kind == "value":
                self.assertIs(isinstance(told, list), function in LISTS)
                self.assertNotIn("[", repr(tuple(told) if function in LISTS else told))

    def test_lists_that_come_back_belong_to_the_caller(self):
        for function, _, values in good_calls():
            if function in LISTS:
                kind, told = answer(function, values)
                if kind == "value":
                    before = list(told)
                    told.append(None)
                    self.same(answer(function, values), ("value", before))


class Things(unittest.TestCase):
    """A thing may be any value: each function tells True or False of it, and nothing else."""

    things = NOTHING_AT_ALL + NO_WEBS + NO_LOTS + NO_WANTS + tuple(UNFIT["sheet"]) + tuple(UNFIT["demand"]) + (
        10 ** 5000, -10 ** 5000, (10 ** 5000,), (0,) * 5000, tuple(range(5000)), ((0, 1),) * 5000, "a" * 5000, nested(20),
        (10 ** 5000, ()), (5, ((0, 1),) * 5000), ((10 ** 5000, ()), ((),) * 5000, ((),) * 5000), (("lacking", 0), "ring"),
        ("lacking", 10 ** 5000), ("ring", ()), ("ring", (3, 4, 3)), ("lacking", True), ("wanted", 4, 0), ("near",), (((0,),),),
        ("wanted", [4], 0), (["wanted"], 4, 0), ("many", (10 ** 9, ()), 10 ** 5000), ("outcome", (5, ((0, 1),) * 500), (None,) * 500),
    ) + tuple(own for kind in GOOD for own in GOOD[kind])

    def test_each_thing_is_told(self):
        for function, kinds in FUNCTIONS:
            if kinds[-1] == "thing":
                values = [FITS[kind] for kind in kinds[:-1]]
                for k, thing in enumerate(self.things):
                    with self.subTest(function.__name__, k=k):
                        self.assertIn(answer(function, values + [thing]), (("value", True), ("value", False)))
                        self.assertIsInstance(function(*values, thing), bool)

    def test_what_is_true_is_no_list_and_has_no_list(self):
        for function, kinds in FUNCTIONS:
            if kinds[-1] == "thing":
                values = [FITS[kind] for kind in kinds[:-1]]
                for thing in self.things:
                    if function(*values, thing) and not isinstance(thing, int):
                        self.assertIsInstance(thing, tuple)
                        self.assertIs(function(*values, list(thing)), False)


class Refusals(unittest.TestCase):
    """The HALL is the web of all these calls, BENCH the other one; what fits is told above."""

    def test_unfit_alone(self):
        for function, kinds in FUNCTIONS:
            for at, kind in enumerate(kinds):
                for k, wrong in enumerate(UNFIT.get(kind, ())):
                    values = [FITS[own] for own in kinds]
                    values[at] = wrong
                    with self.subTest(function.__name__, kind=kind, k=k):
                        self.assertEqual(answer(function, values), (Unfit, {}))

    def test_none_of_the_web_alone(self):
        for function, kinds in FUNCTIONS:
            for at, kind in enumerate(kinds):
                error, numbers = NONE_OF_THE_WEB.get(kind, (None, ()))
                for number in numbers:
                    values = [FITS[own] for own in kinds]
                    values[at] = number
                    with self.subTest(function.__name__, kind=kind, number=number):
                        keeps = {"guest" if error is NoGuest else "place": number}
                        self.assertEqual(answer(function, values), (error, keeps))

    def test_several_at_once(self):
        for function, kinds in FUNCTIONS:
            choices = [[("fits", FITS[kind])] + self.wrong_ones(kind) for kind in kinds]
            for chosen in product(*choices):
                states = [state for state, _ in chosen]
                if states.count("fits") < len(states):
                    with self.subTest(function.__name__, chosen=chosen):
                        self.assertEqual(answer(function, [own for _, own in chosen]), self.told(kinds, chosen))

    def wrong_ones(self, kind):
        if kind == "thing":
            return [("fits", None), ("fits", "a")]
        found = [("unfit", own) for own in (UNFIT[kind][0], UNFIT[kind][-1])]
        return found + [("none", own) for own in NONE_OF_THE_WEB.get(kind, (None, ()))[1][:3]]

    def told(self, kinds, chosen):
        """Unfit ahead of all; then the first number that is none of the web."""
        if "unfit" in [state for state, _ in chosen]:
            return (Unfit, {})
        for kind, (state, own) in zip(kinds, chosen):
            if state == "none":
                return (NoGuest, {"guest": own}) if kind == "guest" else (NoPlace, {"place": own})
        raise AssertionError("nothing is wrong here")

    def test_unfit_ahead_of_can_not(self):
        self.assertEqual(answer(runs.next_seat, (HALL, (1, 1), 1)), (Unfit, {}))
        self.assertEqual(answer(runs.next_seat, (HALL, (1, 2), True)), (Unfit, {}))
        self.assertEqual(answer(runs.next_seat, (HALL, (1, 2), 1)), (CanNot, {}))
        self.assertEqual(answer(webs.table_of, ((2,),)), (Unfit, {}))
        self.assertEqual(answer(webs.table_of, ((1,),)), (CanNot, {}))
        self.assertEqual(answer(webs.word_of, ((2, ((0, 0),)),)), (Unfit, {}))

    def test_rows_and_orders_are_those_of_the_web_handed_in(self):
        small = (2, ((0, 1), (1, 0)))
        self.assertEqual(answer(runs.seated, (small, (2,))), (Unfit, {}))
        self.assertEqual(answer(runs.outcome_of, (small, (0, 1, 2))), (Unfit, {}))
        self.assertEqual(answer(runs.next_seat, (small, (0,), 2)), (NoGuest, {"guest": 2}))
        self.assertEqual(answer(webs.guests_at, (small, 2)), (NoPlace, {"place": 2}))


if __name__ == "__main__":
    unittest.main()
