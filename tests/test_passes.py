"""[20], passes.py: LINES and TABLES by one pass over a WORD."""

import unittest
from itertools import product
from math import factorial

from examples import check_examples
from small import NO_WORDS, orders_of, seats_by_hand, small_words

from leftwithout import errors, passes
from leftwithout.counts import by_without, lots
from leftwithout.errors import TooMany, Unfit
from leftwithout.lots import can_be_without
from leftwithout.passes import line_lots, line_orders, table_lots, table_orders
from leftwithout.webs import line_of, table_of, unwanted

EXAMPLES = r'''
>>> [line_orders(own) for own in ((0,), (1, 0), (0, 1, 0, 1))], [table_orders(own) for own in ((0, 0), (1, 0, 1), (0, 1, 0, 1))]
([(1, 0), (2, 0, 0), (24, 0, 0, 0, 0)], [(2, 0, 0), (4, 2, 0, 0), (12, 12, 0, 0, 0)])
>>> [line_lots(own) for own in ((1, 0, 1), (1, 0, 0, 1, 0))], [table_lots(own) for own in ((0, 1, 0, 1), (0, 0, 0), [1, 0, 1, 0, 1])]
([(1, 0, 0, 0), (1, 3, 0, 0, 0, 0)], [(1, 4, 0, 0, 0), (1, 0, 0, 0), (1, 5, 0, 0, 0, 0)])
>>> line_orders((1, 0, 0, 1, 0)), line_orders((0, 1) * 20)[0], line_lots((1, 0) * 20)[:4]
((70, 50, 0, 0, 0, 0), 31124697999874028562378359588474880000000000, (1, 38, 612, 5440))
>>> table_orders((1, 0) * 10)[:3], sum(table_orders([0, 1, 1, 0, 1]))
((4751761734720000, 213829278062400000, 997869964291200000), 120)
>>> table_orders((0, 1) * 13)
raises TooMany()
>>> table_lots((1,))
raises Unfit()
>>> line_lots(())
raises Unfit()
'''

ALL = (line_orders, table_orders, line_lots, table_lots)
OF_TABLES = (table_orders, table_lots)

LONG_WORDS = (
    (0,) * 40, (1,) * 40, (0, 1) * 20, (1, 0) * 20, (0, 0, 1) * 13, (1, 1, 0, 0) * 10, (0, 1, 1, 0, 1) * 8, (0,) * 20 + (1,) * 20,
    (1,) * 20 + (0,) * 20, (1, 0, 0, 1, 0, 1, 1) * 5 + (0, 1),
)


def round_words(longest):
    return [word for word in small_words(longest) if len(word) > 1]


def turned_round(word):
    """The WORD read from its end, each letter exchanged for the other one."""
    return tuple(1 - side for side in reversed(word))


def orders_by_hand(web):
    found = [0] * (len(web[1]) + 1)
    for order in orders_of(web):
        found[[place for _, place in seats_by_hand(web, order)].count(None)] += 1
    return tuple(found)


def lots_by_size(web):
    told = [len(lot) for lot in lots(web)]
    return tuple(told.count(size) for size in range(len(web[1]) + 1))


class Examples(unittest.TestCase):
    def test_examples(self):
        check_examples(self, {**vars(errors), **vars(passes)}, EXAMPLES)


class BesideTheWeb(unittest.TestCase):
    def test_orders_run_one_after_another(self):
        for word in small_words(6):
            self.assertEqual(line_orders(word), orders_by_hand(line_of(word)))
        for word in round_words(6):
            self.assertEqual(table_orders(word), orders_by_hand(table_of(word)))

    def test_orders_counted(self):
        for word in [*small_words(7), *list(product((0, 1), repeat=9))[::17], *list(product((0, 1), repeat=10))[::53]]:
            self.assertEqual(line_orders(word), by_without(line_of(word)))
            if len(word) > 1:
                self.assertEqual(table_orders(word), by_without(table_of(word)))

    def test_lots(self):
        for word in [*small_words(7), *list(product((0, 1), repeat=10))[::53]]:
            self.assertEqual(line_lots(word), lots_by_size(line_of(word)))
            if len(word) > 1:
                self.assertEqual(table_lots(word), lots_by_size(table_of(word)))

    def test_one_guest_and_pairs_on_long_words(self):
        for word in LONG_WORDS:
            for web, told in ((line_of(word), line_lots(word)), (table_of(word), table_lots(word))):
                single = [guest for guest in range(len(word)) if can_be_without(web, (guest,))]
                self.assertEqual(told[:2], (1, len(single)))
        word = LONG_WORDS[4]
        pairs = [(one, other) for other in range(len(word)) for one in range(other)]
        for web, told in ((line_of(word), line_lots(word)), (table_of(word), table_lots(word))):
            self.assertEqual(told[2], len([pair for pair in pairs if can_be_without(web, pair)]))


class Guarantees(unittest.TestCase):
    def test_kinds_and_lengths(self):
        for word in [*small_words(5), *LONG_WORDS]:
            for told in ALL:
                if told in OF_TABLES and len(word) < 2 or told == table_orders and len(word) > 20:
                    continue
                row = told(word)
                self.assertIsInstance(row, tuple)
                self.assertEqual(len(row), len(word) + 1)
                self.assertGreaterEqual(min(row), 0)
                self.assertEqual(told(list(word)), row)

    def test_orders_added_up(self):
        for word in [*small_words(8), *LONG_WORDS]:
            self.assertEqual(sum(line_orders(word)), factorial(len(word)))
        for word in [*round_words(8), *[word[:20] for word in LONG_WORDS]]:
            self.assertEqual(sum(table_orders(word)), factorial(len(word)))

    def test_read_from_the_end(self):
        for word in [*small_words(7), *LONG_WORDS]:
            back = turned_round(word)
            self.assertEqual((line_orders(word), line_lots(word)), (line_orders(back), line_lots(back)))
            if len(word) > 1:
                self.assertEqual(table_lots(word), table_lots(back))
                self.assertEqual(table_orders(word[:20]), table_orders(turned_round(word[:20])))

    def test_begun_at_another_letter(self):
        for word in [*round_words(7), *LONG_WORDS]:
            for first in (1, len(word) // 2, len(word) - 1):
                other = word[first:] + word[:first]
                self.assertEqual(table_lots(other), table_lots(word))
                if len(word) <= 20:
                    self.assertEqual(table_orders(other), table_orders(word))

    def test_letters_alike(self):
        for side in (0, 1):
            for count in (1, 2, 3, 10, 20, 40):
                word = (side,) * count
                self.assertEqual(line_orders(word), (factorial(count),) + (0,) * count)
                self.assertEqual(line_lots(word), (1,) + (0,) * count)
                if count > 1:
                    self.assertEqual(table_lots(word), (1,) + (0,) * count)
                if 1 < count <= 20:
                    self.assertEqual(table_orders(word), (factorial(count),) + (0,) * count)

    def test_at_most_as_many_as_nooks(self):
        for word in round_words(9):
            most = max(number for number, many in enumerate(table_lots(word)) if many)
            self.assertLessEqual(most, len(unwanted(table_of(word))))

    def test_orders_and_lots_go_as_far(self):
        for word in small_words(8):
            self.assertEqual([many > 0 for many in line_orders(word)], [many > 0 for many in line_lots(word)])
            if len(word) > 1:
                self.assertEqual([many > 0 for many in table_orders(word)], [many > 0 for many in table_lots(word)])


class Bounds(unittest.TestCase):
    def test_twenty_and_twenty_one(self):
        for word in ((0, 1) * 10, (0,) * 20, (0, 0, 1, 1) * 5):
            self.assertEqual(sum(table_orders(word)), factorial(20))
            for more in ((0,), (1,), (0, 1) * 10):
                self.assertRaises(TooMany, table_orders, word + more)
                self.assertEqual(sum(line_orders(word + more)), factorial(len(word + more)))
                self.assertEqual(len(table_lots(word + more)), len(word + more) + 1)

    def test_unfit_ahead_of_too_many(self):
        self.assertRaises(Unfit, table_orders, (0, 1) * 12 + (2,))
        self.assertRaises(Unfit, table_orders, (0, 1) * 12 + (True,))

    def test_one_and_two(self):
        for side in (0, 1):
            self.assertEqual((line_orders((side,)), line_lots((side,))), ((1, 0), (1, 0)))
        for word in product((0, 1), repeat=2):
            self.assertEqual((table_orders(word), table_lots(word)), ((2, 0, 0), (1, 0, 0)))

    def test_forty_of_the_line(self):
        # The ORDERS of a LINE of 40 are more than 10^47.
        told = line_orders((0, 0, 1, 1) * 10)
        self.assertEqual((sum(told), len(told)), (factorial(40), 41))
        self.assertGreater(min(told[:5]), 0)


class Refusals(unittest.TestCase):
    def test_no_words(self):
        for wrong in NO_WORDS:
            for told in ALL:
                self.assertRaises(Unfit, told, wrong)

    def test_words_of_one_make_no_table(self):
        for word in ((0,), (1,), [0], [1]):
            for told in OF_TABLES:
                self.assertRaises(Unfit, told, word)

    def test_by_name(self):
        for told in ALL:
            self.assertEqual(told(word=[1, 0, 1]), told((1, 0, 1)))


if __name__ == "__main__":
    unittest.main()
