"""[5], webs.py, and [3]: WEBS, WORDS, LINES, TABLES."""

import unittest
from itertools import product

from examples import check_examples
from small import NO_WEBS, NO_WORDS, as_lists, as_mixed, nested, small_webs, small_words

from leftwithout import errors, webs
from leftwithout.errors import CanNot
from leftwithout.webs import (
    beside, between, ends, guests_at, is_web, is_word, line_of, other_end, sizes, table_of, unwanted, wanted, wanting,
    word_of,
)

EXAMPLES = r'''
>>> hall = (5, ((0, 1), (2, 1), (2, 0), (3, 1), (1, 3)))
>>> is_web(hall), is_web((3, ())), is_web((0, ())), is_web((2, ((0, 0),))), is_web((2, ((0, 2),))), is_web([2, ()])
(True, True, False, False, False, False)
>>> sizes(hall), wanted(hall, 3), other_end(hall, 3), ends(hall, 2), guests_at(hall, 1), wanting(hall, 2), wanting(hall, 4), unwanted(hall)
((5, 5), 3, 1, (0, 2), (0, 1, 3, 4), (1, 2), (), (4,))
>>> beside(hall, 1), beside(hall, 4), between(hall, 1, 3), between(hall, 3, 1), between(hall, 0, 3), between(hall, 1, 1)
((0, 2, 3), (), (3, 4), (3, 4), (), ())
>>> line_of((0, 1, 1)), table_of((0, 1, 1)), table_of((0, 0))
((4, ((0, 1), (2, 1), (3, 2))), (3, ((0, 1), (2, 1), (0, 2))), (2, ((0, 1), (1, 0))))
>>> word_of((4, ((0, 1), (2, 1), (3, 2)))), word_of((3, ((0, 1), (2, 1), (0, 2)))), word_of((2, ((1, 0),))), is_word(()), is_word((0, 2))
(('line', (0, 1, 1)), ('table', (0, 1, 1)), ('line', (1,)), False, False)
>>> wanted(hall, 5)
raises NoGuest(guest=5)
>>> guests_at(hall, -1)
raises NoPlace(place=-1)
>>> table_of((1,))
raises CanNot()
>>> word_of(hall)
raises CanNot()
'''

HALL = (5, ((0, 1), (2, 1), (2, 0), (3, 1), (1, 3)))


class Examples(unittest.TestCase):
    def test_examples(self):
        check_examples(self, {**vars(errors), **vars(webs)}, EXAMPLES)


class IsWeb(unittest.TestCase):
    def test_webs(self):
        for web in ((1, ()), (40, ()), (2, ((0, 1),) * 40), (2, ((0, 1), (1, 0))), (10 ** 12, ((10 ** 12 - 1, 0),))):
            with self.subTest(web[0]):
                self.assertIs(is_web(web), True)

    def test_all_small_webs(self):
        for web in small_webs():
            self.assertIs(is_web(web), True)

    def test_no_webs(self):
        for k, thing in enumerate(NO_WEBS):
            with self.subTest(k):
                self.assertIs(is_web(thing), False)

    def test_lists_are_no_tuples(self):
        for thing in ([2, ()], (2, []), (2, ([0, 1],)), (2, [(0, 1)]), [2, [[0, 1]]], as_lists(HALL), as_mixed(HALL)):
            with self.subTest(thing):
                self.assertIs(is_web(thing), False)

    def test_each_pair_of_small_numbers(self):
        for many, first, later in product(range(-1, 4), range(-2, 5), range(-2, 5)):
            good = many >= 1 and first != later and first in range(many) and later in range(many)
            self.assertIs(is_web((many, ((first, later),))), good)

    def test_great_things(self):
        self.assertIs(is_web((3, ((0, 1),) * 10 ** 5)), True)
        self.assertIs(is_web((3, ((0, 1),) * 10 ** 5 + ((0, 3),))), False)
        self.assertIs(is_web(nested(18)), False)
        self.assertIs(is_web("ab" * 10 ** 5), False)


class IsWord(unittest.TestCase):
    def test_words(self):
        for word in list(small_words()) + [(0, 1) * 20, (1,) * 10 ** 5]:
            self.assertIs(is_word(word), True)

    def test_no_words(self):
        for k, thing in enumerate(NO_WORDS):
            with self.subTest(k):
                self.assertIs(is_word(thing), False)

    def test_no_words_of_odd_values(self):
        for thing in ([0], [0, 1], [1, 1], (0, True), (False,), (0, [1]), (0,) * 1000 + (2,), HALL):
            with self.subTest(thing=repr(thing)[:40]):
                self.assertIs(is_word(thing), False)


class Webs(unittest.TestCase):
    def test_without_guests(self):
        for many in (1, 3, 40):
            web = (many, ())
            self.assertEqual((sizes(web), unwanted(web)), ((many, 0), tuple(range(many))))
            self.assertEqual((guests_at(web, 0), wanting(web, 0), beside(web, 0), between(web, 0, 0)), ((), (), (), ()))

    def test_guests_with_the_same_ends(self):
        web = (3, ((0, 2), (2, 0), (0, 2), (1, 2)))
        self.assertEqual([ends(web, guest) for guest in range(4)], [(0, 2), (0, 2), (0, 2), (1, 2)])
        self.assertEqual((between(web, 0, 2), between(web, 2, 0), between(web, 2, 1)), ((0, 1, 2), (0, 1, 2), (3,)))
        self.assertEqual((between(web, 0, 0), between(web, 2, 2), between(web, 0, 1)), ((), (), ()))
        self.assertEqual((beside(web, 2), beside(web, 0), beside(web, 1)), ((0, 1), (2,), (2,)))
        self.assertEqual((wanting(web, 0), wanting(web, 2), unwanted(web)), ((0, 2), (1,), ()))

    def test_sets_are_ascending(self):
        web = (40, ((8, 5), (5, 1), (33, 5), (5, 16), (39, 5), (5, 8), (32, 5), (0, 5)))
        self.assertEqual(beside(web, 5), (0, 1, 8, 16, 32, 33, 39))
        self.assertEqual((guests_at(web, 5), wanting(web, 5), between(web, 5, 8)), (tuple(range(8)), (1, 3, 5), (0, 5)))
        self.assertEqual(unwanted(web), tuple(place for place in range(40) if place not in (8, 5, 33, 39, 32, 0)))

    def test_forty(self):
        web = (40, tuple((k, 0) for k in range(39, 0, -1)) + ((0, 39),))
        self.assertEqual((sizes(web), unwanted(web)), ((40, 40), ()))
        self.assertEqual((guests_at(web, 0), beside(web, 0)), (tuple(range(40)), tuple(range(1, 40))))
        self.assertEqual((wanted(web, 39), other_end(web, 39), ends(web, 39)), (0, 39, (0, 39)))
        self.assertEqual((between(web, 39, 0), wanting(web, 39), wanting(web, 0)), ((0, 39), (0,), (39,)))

    def test_small_webs_against_their_words(self):
        for many, guests in small_webs():
            web = (many, guests)
            self.assertEqual(sizes(web), (many, len(guests)))
            for number, (first, later) in enumerate(guests):
                told = (wanted(web, number), other_end(web, number), ends(web, number))
                self.assertEqual(told, (first, later, (min(first, later), max(first, later))))
            for place in range(many):
                self.check_place(web, place)

    def check_place(self, web, place):
        at, near, wants = [], {}, []
        for number, (first, later) in enumerate(web[1]):
            if place == first:
                wants.append(number)
            if place == first or place == later:
                at.append(number)
                near.setdefault(first + later - place, []).append(number)
        self.assertEqual((guests_at(web, place), wanting(web, place)), (tuple(at), tuple(wants)))
        self.assertEqual(beside(web, place), tuple(sorted(near)))
        for other in range(web[0]):
            self.assertEqual(between(web, place, other), tuple(near.get(other, [])))

    def test_guarantees(self):
        for web in small_webs():
            places, count = range(web[0]), len(web[1])
            self.assertEqual(sum(len(guests_at(web, place)) for place in places), 2 * count)
            self.assertEqual(sum(len(wanting(web, place)) for place in places), count)
            self.assertEqual(unwanted(web), tuple(place for place in places if wanting(web, place) == ()))


class Words(unittest.TestCase):
    def check_ends(self, guests, word, rights):
        """Guest k ends at k and rights[k]; it wants k just by 0."""
        for k, side in enumerate(word):
            self.assertEqual(guests[k], (rights[k], k) if side else (k, rights[k]))

    def test_lines(self):
        for word in list(small_words()) + [(1, 0) * 20, (0,) * 40]:
            many, guests = line_of(word)
            self.assertEqual((many, len(guests)), (len(word) + 1, len(word)))
            self.check_ends(guests, word, list(range(1, many)))

    def test_tables(self):
        for word in list(small_words()) + [(1, 0) * 20, (0,) * 40]:
            if len(word) > 1:
                many, guests = table_of(word)
                self.assertEqual((many, len(guests)), (len(word), len(word)))
                self.check_ends(guests, word, list(range(1, many)) + [0])

    def test_tables_of_two(self):
        self.assertEqual([table_of(word)[1] for word in ((0, 0), (0, 1), (1, 0), (1, 1))], [
            ((0, 1), (1, 0)), ((0, 1), (0, 1)), ((1, 0), (1, 0)), ((1, 0), (0, 1)),
        ])

    def test_no_table_of_one(self):
        for word in ((0,), (1,), [0]):
            with self.subTest(word), self.assertRaises(CanNot):
                table_of(word)

    def test_shortest_lines(self):
        self.assertEqual((line_of((0,)), line_of((1,))), ((2, ((0, 1),)), (2, ((1, 0),))))

    def test_lead_back(self):
        for word in list(small_words()) + [(1, 0) * 20, (0,) * 40]:
            self.assertEqual(word_of(line_of(word)), ("line", word))
            if len(word) > 1:
                self.assertEqual(word_of(table_of(word)), ("table", word))

    def test_word_of_each_small_web(self):
        told = {line_of(word): ("line", word) for word in small_words(3)}
        told.update({table_of(word): ("table", word) for word in small_words(3) if len(word) > 1})
        seen = 0
        for web in small_webs(3, 3):
            if web in told:
                seen += 1
                self.assertEqual(word_of(web), told[web])
            else:
                with self.assertRaises(CanNot, msg=repr(web)):
                    word_of(web)
        # Lines of up to three places, tables of two and of three.
        self.assertEqual(seen, 2 + 4 + 4 + 8)

    def test_no_word(self):
        for web in ((1, ()), (2, ()), (4, line_of((0, 0))[1]), (3, ((1, 2), (0, 1))), (4, table_of((0, 0, 0))[1]), HALL):
            with self.subTest(web), self.assertRaises(CanNot):
                word_of(web)


if __name__ == "__main__":
    unittest.main()
