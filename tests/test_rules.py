"""[2] and [3]: what holds for every function of webs.py and runs.py.

Lists for tuples, names for positions, nothing handed in is changed, and
refusals in the order in which the document states them.
"""

import copy
import unittest
from itertools import product

from small import NO_NUMBERS, NO_WEBS, NO_WORDS, NOTHING_AT_ALL, as_lists, as_mixed

from leftwithout import runs, webs
from leftwithout.errors import CanNot, NoGuest, NoPlace, Unfit

HALL = (5, ((0, 1), (2, 1), (2, 0), (3, 1), (1, 3)))
LINE = (4, ((0, 1), (2, 1), (3, 2)))

# Each function with the kinds of its arguments; the name of an argument is
# its kind, but for "other", which is a place.
FUNCTIONS = (
    (webs.sizes, ("web",)), (webs.unwanted, ("web",)), (webs.wanted, ("web", "guest")),
    (webs.other_end, ("web", "guest")), (webs.ends, ("web", "guest")), (webs.guests_at, ("web", "place")),
    (webs.wanting, ("web", "place")), (webs.beside, ("web", "place")), (webs.between, ("web", "place", "other")),
    (webs.line_of, ("word",)), (webs.table_of, ("word",)), (webs.word_of, ("web",)),
    (runs.seated, ("web", "row")), (runs.outcome_of, ("web", "order")), (runs.moments, ("web", "row")),
    (runs.free_places, ("web", "row")), (runs.without_of, ("web", "row")), (runs.pleased_of, ("web", "row")),
    (runs.next_seat, ("web", "row", "guest")), (runs.found_gone, ("web", "row")),
    (runs.is_row, ("web", "thing")), (runs.is_order, ("web", "thing")),
)

GOOD = {
    "web": (HALL, LINE, (1, ()), (2, ((1, 0),))), "word": ((0, 1, 1), (1, 0)), "guest": (0, 2, 4), "place": (0, 2, 4),
    "other": (1, 4), "row": ((), (2, 1), (0, 1, 2, 3, 4)), "order": ((4, 2, 1, 0, 3), (0, 1, 2), ()), "thing": ((), (0, 1)),
}

NO_ROWS = NOTHING_AT_ALL + ((0, 0), (1, 2, 1), (5,), (-1,), (0, 5), [0, True], (0, [1]))

UNFIT = {
    "web": NO_WEBS, "word": NO_WORDS, "guest": NO_NUMBERS, "place": NO_NUMBERS, "other": NO_NUMBERS, "row": NO_ROWS,
    "order": NO_ROWS + ((), (0, 1, 2, 3), (0, 1, 2, 3, 4, 4), [1, 2, 3, 4, 5]),
}

NONE_OF_THE_WEB = {"guest": (NoGuest, (5, 9, -1, -5, 10 ** 6)), "place": (NoPlace, (5, 8, -1, -5, 10 ** 6))}
NONE_OF_THE_WEB["other"] = NONE_OF_THE_WEB["place"]


def answer(function, values, **names):
    """What the call gives, or the error that it raises, with what it keeps."""
    try:
        return ("value", function(*values, **names))
    except (CanNot, NoGuest, NoPlace, Unfit) as error:
        return (error.__class__, vars(error))


def good_calls():
    for function, kinds in FUNCTIONS:
        for values in product(*[GOOD[kind] for kind in kinds]):
            yield function, kinds, values


class Arguments(unittest.TestCase):
    def same(self, first, later):
        self.assertEqual(first, later)
        # repr tells a list from a tuple and True from 1.
        self.assertEqual(repr(first), repr(later))

    def test_lists_for_tuples(self):
        for function, kinds, values in good_calls():
            for change in (as_lists, as_mixed, lambda value: as_mixed(value, 1)):
                changed = [own if kind == "thing" else change(own) for kind, own in zip(kinds, values)]
                self.same(answer(function, changed), answer(function, values))

    def test_by_names_in_any_order(self):
        for function, kinds, values in good_calls():
            told = dict(reversed(list(zip(kinds, values))))
            self.same(answer(function, (), **told), answer(function, values))
            rest = dict(zip(kinds[1:], values[1:]))
            self.same(answer(function, values[:1], **rest), answer(function, values))

    def test_nothing_handed_in_is_changed(self):
        for function, kinds, values in good_calls():
            changed = [as_lists(own) for own in values]
            before = copy.deepcopy(changed)
            answer(function, changed)
            self.same(changed, before)

    def test_same_call_same_result(self):
        for function, kinds, values in good_calls():
            self.same(answer(function, values), answer(function, values))

    def test_what_is_handed_in_later_changed_changes_no_result(self):
        web, row = as_lists(HALL), [2, 1]
        told = (webs.ends(web, 2), webs.word_of(as_lists(LINE)), runs.seated(web, row), runs.moments(web, row))
        before = copy.deepcopy(told)
        web[1][2][0] = 4
        row.append(0)
        self.same(told, before)

    def test_results_are_of_tuples(self):
        for function, kinds, values in good_calls():
            kind, told = answer(function, [own if name == "thing" else as_lists(own) for name, own in zip(kinds, values)])
            if kind == "value":
                self.assertNotIn("[", repr(told))


class Refusals(unittest.TestCase):
    """The hall is the web of all these calls; good numbers and rows are those of it."""

    fits = {"web": HALL, "word": (0, 1), "guest": 4, "place": 3, "other": 1, "row": (2, 1), "order": (4, 2, 1, 0, 3)}

    def test_unfit_alone(self):
        for function, kinds in FUNCTIONS:
            for at, kind in enumerate(kinds):
                for k, wrong in enumerate(UNFIT.get(kind, ())):
                    values = [self.fits.get(own) for own in kinds]
                    values[at] = wrong
                    with self.subTest(function.__name__, kind=kind, k=k):
                        self.assertEqual(answer(function, values), (Unfit, {}))

    def test_none_of_the_web_alone(self):
        for function, kinds in FUNCTIONS:
            for at, kind in enumerate(kinds):
                error, numbers = NONE_OF_THE_WEB.get(kind, (None, ()))
                for number in numbers:
                    values = [self.fits.get(own) for own in kinds]
                    values[at] = number
                    with self.subTest(function.__name__, kind=kind, number=number):
                        keeps = {"guest" if error is NoGuest else "place": number}
                        self.assertEqual(answer(function, values), (error, keeps))

    def test_several_at_once(self):
        for function, kinds in FUNCTIONS:
            choices = [[("fits", self.fits.get(kind))] + self.wrong_ones(kind) for kind in kinds]
            for chosen in product(*choices):
                states = [state for state, _ in chosen]
                if states.count("fits") < len(states):
                    with self.subTest(function.__name__, chosen=chosen):
                        self.assertEqual(answer(function, [own for _, own in chosen]), self.told(kinds, chosen))

    def wrong_ones(self, kind):
        unfit = {"web": [(0, ()), None], "row": [(0, 0), None], "order": [(2, 1), None], "word": [(), None]}
        found = [("unfit", own) for own in unfit.get(kind, [True, "0"] if kind in NONE_OF_THE_WEB else [])]
        return found + [("none", own) for own in NONE_OF_THE_WEB.get(kind, (None, ()))[1][:3]]

    def told(self, kinds, chosen):
        """Unfit ahead of all; then the first number that is none of the web."""
        if "unfit" in [state for state, _ in chosen]:
            return (Unfit, {})
        for kind, (state, own) in zip(kinds, chosen):
            if state == "none":
                return (NoGuest, {"guest": own}) if kind == "guest" else (NoPlace, {"place": own})
        raise AssertionError("nothing is wrong here")

    def test_unfit_ahead_of_can_not(self):
        self.assertEqual(answer(runs.next_seat, (HALL, (1, 1), 1)), (Unfit, {}))
        self.assertEqual(answer(runs.next_seat, (HALL, (1, 2), True)), (Unfit, {}))
        self.assertEqual(answer(runs.next_seat, (HALL, (1, 2), 1)), (CanNot, {}))
        self.assertEqual(answer(webs.table_of, ((2,),)), (Unfit, {}))
        self.assertEqual(answer(webs.table_of, ((1,),)), (CanNot, {}))
        self.assertEqual(answer(webs.word_of, ((2, ((0, 0),)),)), (Unfit, {}))

    def test_rows_and_orders_are_those_of_the_web_handed_in(self):
        small = (2, ((0, 1), (1, 0)))
        self.assertEqual(answer(runs.seated, (small, (2,))), (Unfit, {}))
        self.assertEqual(answer(runs.outcome_of, (small, (0, 1, 2))), (Unfit, {}))
        self.assertEqual(answer(runs.next_seat, (small, (0,), 2)), (NoGuest, {"guest": 2}))
        self.assertEqual(answer(webs.guests_at, (small, 2)), (NoPlace, {"place": 2}))


if __name__ == "__main__":
    unittest.main()
