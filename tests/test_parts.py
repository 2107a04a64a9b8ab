"""[7], parts.py: LOTS, PARTS, ROUNDS, who can sit."""

import unittest
from itertools import permutations, product

from examples import check_examples
from small import (
    NO_LOTS, NO_WEBS, NOTHING_AT_ALL, few_webs, great_webs, guests_by_hand, lots_of, parts_by_hand, small_webs, takings_of,
)

from leftwithout import errors, parts
from leftwithout.errors import CanNot, NoPlace, Unfit
from leftwithout.parts import (
    can_all_sit, guests_of_part, is_lot, is_round, kind_of_part, most_seated, others, part_of, round_in, trees,
)

EXAMPLES = r'''
>>> hall = (6, ((0, 1), (2, 1), (2, 0), (3, 4), (4, 3), (3, 4)))
>>> is_lot(hall, (0, 2)), is_lot(hall, (2, 0)), is_lot(hall, [0]), is_lot(hall, (6,)), is_lot(hall, ()), others(hall, (0, 2))
(True, False, False, False, True, (1, 3, 4, 5))
>>> parts(hall, (0, 1)), parts(hall, ()), parts(hall, (0, 1, 2, 3, 4, 5)), part_of(hall, (0, 1), 2)
(((0, 1, 2), (3,), (4,), (5,)), ((0,), (1,), (2,), (3,), (4,), (5,)), ((0, 1, 2), (3, 4), (5,)), (0, 1, 2))
>>> [kind_of_part(hall, (0, 1, 2, 3, 4, 5), own) for own in (0, 3, 5)], [kind_of_part(hall, (0, 1, 3, 4), own) for own in (0, 3, 5)]
(['full', 'crowded', 'tree'], ['tree', 'full', 'tree'])
>>> guests_of_part(hall, (0, 1, 3, 4), 4), guests_of_part(hall, (0, 1), 5), trees(hall, (0, 1, 3, 4)), most_seated(hall, (0, 1, 2, 3, 4, 5)), can_all_sit(hall, (0, 1, 2, 3, 4))
((3, 4), (), ((0, 1, 2), (5,)), 5, True)
>>> [is_round(hall, (0, 1, 2, 4, 5), own) for own in (((0, 0), (1, 1), (2, 2)), ((2, 0), (1, 2), (0, 1)), ((4, 3), (5, 4)), ((0, 0), (1, 1)), ((3, 3), (4, 4)), ((4, 3), (4, 4)))]
[True, True, True, False, False, False]
>>> is_round(hall, (0, 1, 2), round_in(hall, (0, 1, 2), 1)), len(round_in(hall, (3, 4, 5), 3)), most_seated(hall, ()), can_all_sit(hall, (3, 4, 5))
(True, 2, 0, False)
>>> round_in(hall, (0, 1), 0)
raises CanNot()
>>> part_of(hall, (), 6)
raises NoPlace(place=6)
'''

HALL = (6, ((0, 1), (2, 1), (2, 0), (3, 4), (4, 3), (3, 4)))


def kind_by_hand(web, lot, part):
    more = len(guests_by_hand(web, lot, part)) - len(part)
    return {-1: "tree", 0: "full"}.get(more, "crowded")


def is_round_by_hand(web, lot, pairs):
    """Whether the pairs, numbers of GUESTS and PLACES, are a ROUND."""
    guests, places = [guest for guest, _ in pairs], [place for _, place in pairs]
    if len(pairs) < 2 or len({*guests}) < len(pairs) or len({*places}) < len(pairs) or not {*guests} <= {*lot}:
        return False
    return all({*web[1][guests[k]]} == {places[k], places[(k + 1) % len(pairs)]} for k in range(len(pairs)))


def pairs_in_rows(web):
    """All tuples of pairs of unlike GUESTS and unlike PLACES of the WEB."""
    for long in range(min(web[0], len(web[1])) + 1):
        for guests, places in product(permutations(range(len(web[1])), long), permutations(range(web[0]), long)):
            yield tuple(zip(guests, places))


def webs_and_lots(webs):
    for web in webs:
        for lot in lots_of(web):
            yield web, lot


class Examples(unittest.TestCase):
    def test_examples(self):
        check_examples(self, {**vars(errors), **vars(parts)}, EXAMPLES)


class Lots(unittest.TestCase):
    def test_each_tuple_of_small_numbers(self):
        for count in range(4):
            web = (2, ((0, 1),) * count)
            for long in range(count + 2):
                for thing in product(range(-1, count + 1), repeat=long):
                    self.assertIs(is_lot(web, thing), thing in set(lots_of(web)))

    def test_nobody_and_all(self):
        for web in ((1, ()), HALL, (40, ((0, 1),) * 40)):
            everybody = tuple(range(len(web[1])))
            self.assertIs(is_lot(web, ()), True)
            self.assertIs(is_lot(web, everybody), True)
            self.assertEqual((others(web, ()), others(web, everybody)), (everybody, ()))

    def test_no_lots(self):
        for k, thing in enumerate(NO_LOTS + ([], [0], [0, 2], (6,), (True, 2), (0, True), (0, 10 ** 30))):
            with self.subTest(k):
                self.assertIs(is_lot((5, HALL[1][:5]), thing), False)

    def test_great_things(self):
        self.assertIs(is_lot(HALL, tuple(range(10 ** 5))), False)
        self.assertIs(is_lot((2, ((0, 1),) * 1000), tuple(range(1000))), True)

    def test_others(self):
        for web, lot in webs_and_lots(few_webs()):
            self.assertEqual(others(web, lot), tuple(sorted({*range(len(web[1]))} - {*lot})))

    def test_no_web_whatever_thing_is(self):
        for web, thing in product(NO_WEBS, ((), (0,), None, "a")):
            self.assertRaises(Unfit, is_lot, web, thing)
            self.assertRaises(Unfit, is_round, web, (), thing)


class Parts(unittest.TestCase):
    def check_parts(self, web, lot):
        told = parts_by_hand(web, lot)
        kinds = [kind_by_hand(web, lot, part) for part in told]
        self.assertEqual(parts.parts(web, lot), told)
        for part, kind in zip(told, kinds):
            own = guests_by_hand(web, lot, part)
            for place in part:
                self.assertEqual(part_of(web, lot, place), part)
                self.assertEqual((guests_of_part(web, lot, place), kind_of_part(web, lot, place)), (own, kind))
        bare = tuple(part for part, kind in zip(told, kinds) if kind == "tree")
        self.assertEqual((trees(web, lot), most_seated(web, lot)), (bare, web[0] - len(bare)))
        self.assertIs(can_all_sit(web, lot), "crowded" not in kinds)

    def test_small_webs(self):
        for web, lot in webs_and_lots(list(few_webs()) + list(small_webs())):
            self.check_parts(web, lot)

    def test_great_webs(self):
        for web in great_webs():
            everybody = tuple(range(len(web[1])))
            for lot in ((), everybody, everybody[::2], everybody[1::3]):
                self.check_parts(web, lot)

    def test_bounds(self):
        path = (40, tuple((k, k + 1) for k in range(39)) + ((39, 0),))
        crowd = (2, ((0, 1), (1, 0)) * 20)
        for web in ((1, ()), (40, ()), path, crowd):
            for lot in ((), tuple(range(len(web[1]))), tuple(range(len(web[1]) - 1))):
                self.check_parts(web, lot)
        self.assertEqual(kind_of_part(path, tuple(range(40)), 7), "full")
        self.assertEqual(kind_of_part(path, tuple(range(39)), 39), "tree")

    def test_most_seated_is_what_takings_have(self):
        for web in few_webs():
            had = {tuple(guest for guest, place in enumerate(own) if place is not None) for own in takings_of(web)}
            for lot in lots_of(web):
                self.assertEqual(most_seated(web, lot), max(len({*lot} & {*own}) for own in had))
                self.assertIs(can_all_sit(web, lot), lot in had)

    def test_each_place_and_each_guest_is_of_one_part(self):
        for web, lot in webs_and_lots(few_webs()):
            told = parts.parts(web, lot)
            self.assertEqual(sorted(place for part in told for place in part), list(range(web[0])))
            shared = [guest for part in told for guest in guests_of_part(web, lot, part[0])]
            self.assertEqual(sorted(shared), list(lot))
            for part in told:
                self.assertGreaterEqual(len(guests_of_part(web, lot, part[0])), len(part) - 1)


class Rounds(unittest.TestCase):
    def check_round_in(self, web, lot, part):
        for place in part:
            if kind_by_hand(web, lot, part) == "tree":
                self.assertRaises(CanNot, round_in, web, lot, place)
            else:
                told = round_in(web, lot, place)
                self.assertTrue(is_round_by_hand(web, lot, told), (web, lot, told))
                self.assertIs(is_round(web, lot, told), True)
                self.assertLessEqual({own for _, own in told}, {*part})

    def test_round_in(self):
        for web, lot in webs_and_lots(few_webs()):
            for part in parts_by_hand(web, lot):
                self.check_round_in(web, lot, part)

    def test_round_in_great_webs(self):
        for web in great_webs():
            lot = tuple(range(len(web[1])))
            for own in (lot, lot[1::2]):
                for part in parts_by_hand(web, own):
                    self.check_round_in(web, own, part)

    def test_round_of_forty(self):
        web = (40, tuple((k, (k + 1) % 40) for k in range(40)))
        lot = tuple(range(40))
        self.assertEqual(len(round_in(web, lot, 3)), 40)
        whole = tuple((k, k) for k in range(40))
        back = tuple((k, (k + 1) % 40) for k in range(39, -1, -1))
        for told in (whole, back, whole[7:] + whole[:7], back[1:] + back[:1]):
            self.assertIs(is_round(web, lot, told), True)
        for told in (whole[:39], whole[:1], whole[1:], whole + whole[:1], whole[::-1]):
            self.assertIs(is_round(web, lot, told), False)
        self.assertIs(is_round(web, lot[1:], whole), False)

    def test_all_pairs_in_rows(self):
        for web in few_webs(3, 3):
            for pairs in pairs_in_rows(web):
                for lot in lots_of(web):
                    self.assertIs(is_round(web, lot, pairs), is_round_by_hand(web, lot, pairs))

    def test_a_full_part_has_one_round_and_its_turnings(self):
        for web in few_webs(3, 3):
            lot = tuple(range(len(web[1])))
            rounds = [pairs for pairs in pairs_in_rows(web) if is_round(web, lot, pairs)]
            for part in parts_by_hand(web, lot):
                own = {pairs for pairs in rounds if pairs[0][1] in part}
                kind = kind_by_hand(web, lot, part)
                self.assertEqual(len(own) == 0, kind == "tree")
                if kind == "full":
                    (long,) = {len(pairs) for pairs in own}
                    told = round_in(web, lot, part[0])
                    self.assertEqual((len(told), len(own)), (long, 2 * long))
                    self.assertLessEqual({told[k:] + told[:k] for k in range(long)}, own)

    def test_guests_and_places_twice(self):
        web, lot = (3, ((0, 1), (1, 0), (1, 2), (2, 1))), (0, 1, 2, 3)
        eight = ((0, 0), (2, 1), (3, 2), (1, 1))
        self.assertIs(is_round(web, lot, ((0, 0), (1, 1))), True)
        self.assertIs(is_round(web, lot, ((0, 0), (0, 1))), False)
        self.assertIs(is_round(web, lot, eight), False)
        self.assertIs(is_round(web, lot, ((0, 0), (1, 1), (0, 0), (1, 1))), False)

    def test_no_rounds(self):
        web, lot = (2, ((0, 1), (1, 0), (0, 1))), (0, 1)
        wrong = NOTHING_AT_ALL + (
            (), [], ((0, 0),), ((0, 1), (0, 0)), [(0, 0), (1, 1)], ([0, 0], [1, 1]), ((0, 0), [1, 1]), ((0, 0), (1, True)),
            ((False, 0), (1, 1)), ((0, 0, 0), (1, 1, 1)), ((0,), (1,)), ((0, 0), (2, 1)), ((0, 0), (3, 1)), ((-2, 0), (1, 1)),
            ((0, 0), (1, 2)), ((0, 0), (1, -1)), ((0, None), (1, 1)), ((0, 0), (1, "1")), ((0, (0,)), (1, (1,))),
            ((0, 0), (1, 0)), ((0, 0), (1, 1), ()), ((0, 0), 1), ((0, 0), None), ("00", "11"), ((0, 0.0), (1, 1)),
        )
        self.assertIs(is_round(web, lot, ((0, 0), (1, 1))), True)
        for k, thing in enumerate(wrong):
            with self.subTest(k):
                self.assertIs(is_round(web, lot, thing), False)


class Refusals(unittest.TestCase):
    def test_no_place_ahead_of_can_not(self):
        for place in (6, -1, 10 ** 6):
            with self.subTest(place), self.assertRaises(NoPlace) as caught:
                round_in(HALL, (), place)
            self.assertEqual(caught.exception.place, place)

    def test_unfit_ahead_of_no_place(self):
        self.assertRaises(Unfit, round_in, HALL, (1, 0), 6)
        self.assertRaises(Unfit, part_of, HALL, (6,), 6)
        self.assertRaises(Unfit, part_of, (6, ((0, 0),)), (), 6)
        self.assertRaises(Unfit, kind_of_part, HALL, (), True)


if __name__ == "__main__":
    unittest.main()
