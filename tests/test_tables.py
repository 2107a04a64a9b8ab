"""[21], tables.py: NOOKS, gaps, who can be WITHOUT on a TABLE, and for how many WORDS."""

import unittest
from itertools import combinations, product

from examples import check_examples
from small import (
    NO_LOTS, NO_NUMBERS, NO_ORDERS, NO_WORDS, NOTHING_AT_ALL, as_lists, free_by_lot, orders_of, seats_by_hand, sets_of,
    small_words,
)

from leftwithout import errors, tables
from leftwithout.errors import CanNot, Unfit
from leftwithout.lots import can_be_without
from leftwithout.most import most
from leftwithout.passes import table_lots
from leftwithout.tables import (
    can_at_table, closed_gap, fits, gaps, is_closed_gap, is_order_at_table, is_word_for, lots_at_table, many_words,
    most_at_table, nooks, order_at_table, word_for,
)
from leftwithout.webs import table_of, unwanted

EXAMPLES = r'''
>>> word = (0, 1, 1, 0, 0, 1, 0)
>>> nooks(word), most_at_table(word), lots_at_table(word), nooks((0, 1)), most_at_table((0, 1)), lots_at_table((1, 1, 1))
((1, 5), 2, (1, 7, 2), (1,), 0, (1,))
>>> [can_at_table(word, own) for own in ((), (3,), (2, 6), (0, 4), (2, 3))], gaps(word, (2, 6)), gaps(word, (3,)), gaps(word, (0, 4))
([True, True, True, False, False], ((5,), (1,)), ((1, 5),), ((), ()))
>>> [is_order_at_table(word, (3,), own) for own in ((0, 1, 2, 4, 3, 6, 5), (0, 1, 2, 6, 5, 4, 3), (3, 0, 1, 2, 4, 5, 6), (0, 1, 2))]
[True, True, False, False]
>>> closed_gap(word, (0, 4)), is_closed_gap(word, (2, 3), 2), is_closed_gap(word, (2, 3), 5), is_order_at_table(word, (2, 6), order_at_table(word, (2, 6)))
(0, True, False, True)
>>> many_words(7, (0, 4)), many_words(6, (0, 3)), many_words(5, ()), many_words(4, (0, 1)), is_word_for(6, (0, 3), (0, 0, 1, 0, 0, 1))
(16, 4, 32, 0, True)
>>> [fits(own) for own in (2, 3, 4, 7)]
[(4,), (8, 6), (16, 32), (128, 798, 112)]
>>> order_at_table(word, (0, 4))
raises CanNot()
>>> gaps(word, ())
raises CanNot()
'''

WORD = (0, 1, 1, 0, 1)
OF_THE_WORD = (nooks, most_at_table, lots_at_table)
OF_A_LOT = (can_at_table, gaps, order_at_table, closed_gap)
WITH_THING = (is_order_at_table, is_closed_gap)

LONG_WORDS = (
    (0,) * 40, (0, 1) * 20, (0, 0, 1) * 13, (1, 1, 0, 0) * 10, (0, 1, 1, 0, 1) * 8, (0,) * 20 + (1,) * 20,
    (1, 0, 0, 1, 0, 1, 1) * 5 + (0, 1),
)


def round_words(longest=6):
    return [word for word in small_words(longest) if len(word) > 1]


def words_and_lots(longest=6):
    for word in round_words(longest):
        for lot in sets_of(len(word)):
            yield word, lot


def gaps_by_hand(word, lot):
    """The gaps PLACE by PLACE, as the document tells them."""
    count, found = len(word), []
    free = [place for place in range(count) if all(wish != place for wish, _ in table_of(word)[1])]
    for guest in lot:
        place, gap = (guest + 1) % count, set()
        while place not in lot:
            # Neither of both ends at a PLACE between that is not the first one.
            if place != (guest + 1) % count and place in free:
                gap.add(place)
            place = (place + 1) % count
        found.append(tuple(sorted(gap)))
    return tuple(found)


def picked_by_hand(word):
    """The most NOOKS three PLACES or more apart, of all sets of them; none of a TABLE of two."""
    count = len(word)
    if count == 2:
        return 0
    own = nooks(word)
    return max(
        len(some) for long in range(len(own) + 1) for some in combinations(own, long)
        if all(3 <= other - one <= count - 3 for one, other in combinations(some, 2))
    )


class Examples(unittest.TestCase):
    def test_examples(self):
        check_examples(self, {**vars(errors), **vars(tables)}, EXAMPLES)


class BesideTheWeb(unittest.TestCase):
    """What is told of a TABLE beside what is told of it as a WEB, and beside all its ORDERS."""

    def test_nooks(self):
        for word in [*round_words(8), *LONG_WORDS]:
            self.assertEqual(nooks(word), unwanted(table_of(word)))
            told = [place for place in range(len(word)) if (word[place - 1], word[place]) == (0, 1)]
            self.assertEqual(list(nooks(word)), told)
            for place in told:
                self.assertNotIn((place + 1) % len(word), told)

    def test_can_at_table(self):
        for word, lot in words_and_lots():
            self.assertIs(can_at_table(word, lot), lot in free_by_lot(table_of(word)))
        for word, lot in words_and_lots(7):
            self.assertIs(can_at_table(word, lot), can_be_without(table_of(word), lot))

    def test_gaps(self):
        for word, lot in words_and_lots(7):
            if lot:
                self.assertEqual(gaps(word, lot), gaps_by_hand(word, lot))
                self.assertIs(() not in gaps(word, lot), can_at_table(word, lot))
            else:
                self.assertRaises(CanNot, gaps, word, lot)

    def test_closed_gaps(self):
        for word, lot in words_and_lots():
            closed = [guest for guest, gap in zip(lot, gaps_by_hand(word, lot)) if gap == ()]
            if closed:
                self.assertEqual(closed_gap(word, lot), closed[0])
            else:
                self.assertRaises(CanNot, closed_gap, word, lot)
            for guest in range(-1, len(word) + 1):
                self.assertIs(is_closed_gap(word, lot, guest), guest in closed)

    def test_orders_at_table(self):
        for word, lot in words_and_lots():
            if can_at_table(word, lot):
                order = order_at_table(word, lot)
                told = seats_by_hand(table_of(word), order)
                self.assertEqual(sorted(order), list(range(len(word))))
                self.assertEqual(tuple(sorted(guest for guest, place in told if place is None)), lot)
                self.assertIs(is_order_at_table(word, lot, order), True)
            else:
                self.assertRaises(CanNot, order_at_table, word, lot)

    def test_is_order_at_table(self):
        for word in round_words(4):
            for order in orders_of(table_of(word)):
                told = seats_by_hand(table_of(word), order)
                gone = tuple(sorted(guest for guest, place in told if place is None))
                for lot in sets_of(len(word)):
                    self.assertIs(is_order_at_table(word, lot, order), lot == gone)

    def test_most_and_lots(self):
        for word in round_words():
            sizes = [len(lot) for lot in free_by_lot(table_of(word))]
            self.assertEqual(most_at_table(word), max(sizes))
            self.assertEqual(lots_at_table(word), tuple(sizes.count(size) for size in range(max(sizes) + 1)))

    def test_most_and_lots_of_longer_ones(self):
        for word in [*round_words(11)[::5], *LONG_WORDS]:
            if len(nooks(word)) < 12:
                self.assertEqual(most_at_table(word), picked_by_hand(word))
            told = lots_at_table(word)
            self.assertEqual(len(told), most_at_table(word) + 1)
            self.assertEqual(told, table_lots(word)[:len(told)])
            self.assertEqual({0, *table_lots(word)[len(told):]}, {0})
            self.assertGreater(min(told), 0)
        for word in list(product((0, 1), repeat=10))[::3]:
            self.assertEqual(most_at_table(word), most(table_of(word)))

    def test_no_lot_but_nobody(self):
        for word in round_words(8):
            self.assertIs(lots_at_table(word) == (1,), len({*word}) == 1 or len(word) == 2)

    def test_long_tables(self):
        for word in LONG_WORDS:
            for lot in ((), (0,), (0, 3), (1, 20), (0, 5, 11, 30), tuple(range(0, 36, 3)), tuple(range(1, 37, 4))):
                self.assertIs(can_at_table(word, lot), can_be_without(table_of(word), lot))
                if lot:
                    self.assertEqual(gaps(word, lot), gaps_by_hand(word, lot))
                if can_at_table(word, lot):
                    self.assertIs(is_order_at_table(word, lot, order_at_table(word, lot)), True)


class AllWords(unittest.TestCase):
    def test_many_words(self):
        for number in range(2, 8):
            words = list(product((0, 1), repeat=number))
            for lot in sets_of(number):
                self.assertEqual(many_words(number, lot), len([word for word in words if can_at_table(word, lot)]))

    def test_words_for(self):
        for number in range(2, 9):
            for lot in sets_of(number):
                if many_words(number, lot):
                    word = word_for(number, lot)
                    self.assertEqual((len(word), {*word} | {0, 1}), (number, {0, 1}))
                    self.assertIs(can_be_without(table_of(word), lot), True)
                    self.assertIs(is_word_for(number, lot, word), True)
                else:
                    self.assertRaises(CanNot, word_for, number, lot)

    def test_is_word_for(self):
        for number in range(2, 6):
            for lot in sets_of(number):
                for word in small_words(6):
                    told = len(word) == number and can_be_without(table_of(word), lot)
                    self.assertIs(is_word_for(number, lot, word), told)

    def test_fits(self):
        for number in range(2, 10):
            told = fits(number)
            self.assertEqual(len(told), number // 3 + 1)
            for size, many in enumerate(told):
                self.assertEqual(many, sum(many_words(number, lot) for lot in combinations(range(number), size)))

    def test_fits_by_the_lots_of_all_words(self):
        for number in range(2, 9):
            rows = [table_lots(word) for word in product((0, 1), repeat=number)]
            self.assertEqual(fits(number), tuple(sum(row[size] for row in rows) for size in range(number // 3 + 1)))
            self.assertEqual({0, *[many for row in rows for many in row[number // 3 + 1:]]}, {0})

    def test_forty(self):
        told = fits(40)
        self.assertEqual((told[0], told[1], len(told)), (2 ** 40, 40 * 2 * (2 ** 39 - 40), 14))
        # Thirteen with two between each, but for one more once.
        self.assertEqual(told[13], 40 * 2 ** 13 * 4)
        self.assertEqual(many_words(40, ()), 2 ** 40)
        self.assertEqual(many_words(40, (39,)), 2 * (2 ** 39 - 40))
        lot = tuple(range(0, 39, 3))
        self.assertEqual(many_words(40, lot), 2 ** 13 * 4)
        self.assertIs(is_word_for(40, lot, word_for(40, lot)), True)
        self.assertIs(is_word_for(40, (), word_for(40, ())), True)
        self.assertEqual(many_words(40, lot + (39,)), 0)
        self.assertRaises(CanNot, word_for, 40, lot + (39,))

    def test_two_and_three(self):
        self.assertEqual([many_words(2, lot) for lot in ((), (0,), (1,), (0, 1))], [4, 0, 0, 0])
        self.assertEqual([many_words(3, lot) for lot in ((), (0,), (2,), (0, 1), (0, 1, 2))], [8, 2, 2, 0, 0])
        self.assertRaises(CanNot, word_for, 2, (0,))


class Refusals(unittest.TestCase):
    def test_no_words_of_two_or_more(self):
        for wrong in NO_WORDS + ((0,), (1,), [0], [1]):
            for told in OF_THE_WORD:
                self.assertRaises(Unfit, told, wrong)
            for told in OF_A_LOT:
                self.assertRaises(Unfit, told, wrong, ())
                self.assertRaises(Unfit, told, wrong, (0,))
            for told in WITH_THING:
                for thing in (0, (0, 1), None):
                    self.assertRaises(Unfit, told, wrong, (), thing)

    def test_no_lots(self):
        for wrong in NO_LOTS:
            for told in OF_A_LOT:
                self.assertRaises(Unfit, told, WORD, wrong)
            for told in WITH_THING:
                for thing in (0, (0, 1, 2, 3, 4), None):
                    self.assertRaises(Unfit, told, WORD, wrong, thing)
            for told in (many_words, word_for):
                self.assertRaises(Unfit, told, 5, wrong)
            for thing in (WORD, None):
                self.assertRaises(Unfit, is_word_for, 5, wrong, thing)

    def test_no_numbers_from_two(self):
        for wrong in NO_NUMBERS + (1, 0, -1, -40):
            self.assertRaises(Unfit, fits, wrong)
            for lot in ((), (0,), (1, 1)):
                for told in (many_words, word_for):
                    self.assertRaises(Unfit, told, wrong, lot)
                self.assertRaises(Unfit, is_word_for, wrong, lot, (0, 1))

    def test_things(self):
        self.assertIs(is_word_for(5, (), WORD), True)
        for k, thing in enumerate(NO_WORDS + ([0, 1, 1, 0, 1], (0, 1, 1, 0), (0, 1, 1, 0, True), WORD + (0,))):
            with self.subTest(k):
                self.assertIs(is_word_for(5, (), thing), False)
        self.assertIs(is_closed_gap(WORD, (0, 1), 0), True)
        for thing in NO_NUMBERS + (1, 2, 5, -1, [0], (0,)):
            self.assertIs(is_closed_gap(WORD, (0, 1), thing), False)
        self.assertIs(is_order_at_table(WORD, (), (4, 0, 1, 2, 3)), True)
        for k, thing in enumerate(NO_ORDERS + ([4, 0, 1, 2, 3], (4, 3, 2, 1, 0), NOTHING_AT_ALL)):
            with self.subTest(k):
                self.assertIs(is_order_at_table(WORD, (), thing), False)

    def test_lists(self):
        for told in OF_A_LOT[:2]:
            self.assertEqual(told(list(WORD), [3]), told(WORD, (3,)))
        self.assertEqual(lots_at_table(as_lists(WORD)), lots_at_table(WORD))
        self.assertEqual(many_words(7, [0, 4]), 16)


if __name__ == "__main__":
    unittest.main()
