"""[3], [11], takings.py: what a TAKING is."""

import unittest
from itertools import product

from small import NO_WEBS, NOTHING_AT_ALL, few_webs, takings_of

from leftwithout.errors import Unfit
from leftwithout.takings import is_taking

HALL = (5, ((0, 1), (2, 1), (2, 0), (3, 1), (1, 3)))


class Takings(unittest.TestCase):
    def test_each_tuple_of_places_and_none(self):
        for web in few_webs(3, 3):
            good = set(takings_of(web))
            for long in range(len(web[1]) + 2):
                for thing in product((None, *range(-1, web[0] + 1)), repeat=long):
                    self.assertIs(is_taking(web, thing), thing in good)

    def test_nobody_and_all(self):
        self.assertIs(is_taking((1, ()), ()), True)
        self.assertIs(is_taking(HALL, (None,) * 5), True)
        self.assertIs(is_taking(HALL, (0, 2, None, 3, 1)), True)
        self.assertIs(is_taking((40, tuple((k, (k + 1) % 40) for k in range(40))), tuple(range(40))), True)

    def test_no_takings(self):
        wrong = NOTHING_AT_ALL + (
            (), [], [None] * 5, (None,) * 4, (None,) * 6, (0, 2, None, 3, 3), (0, 2, 2, None, None), (4, None, None, None, None),
            (2, None, None, None, None), (False, None, None, None, None), (True, None, None, None, None),
            (0, 2, None, 3, True), ("0", None, None, None, None), (0.0, None, None, None, None),
            ((0,), None, None, None, None), ([0], None, None, None, None), (-5, None, None, None, None), (None,) * 1000,
        )
        for k, thing in enumerate(wrong):
            with self.subTest(k):
                self.assertIs(is_taking(HALL, thing), False)

    def test_no_web_whatever_thing_is(self):
        for web, thing in product(NO_WEBS, ((), (None,), None)):
            self.assertRaises(Unfit, is_taking, web, thing)


if __name__ == "__main__":
    unittest.main()
