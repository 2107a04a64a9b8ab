"""[27], errors.py, and [2]: the error classes."""

import unittest

from leftwithout import errors

WITH_VALUE = (("NoGuest", "guest", LookupError), ("NoPlace", "place", LookupError), ("BadText", "line", ValueError))
WITHOUT = (("NothingDone", LookupError), ("CanNot", ValueError), ("TooMany", ValueError), ("Unfit", ValueError))


class Errors(unittest.TestCase):
    def test_bases(self):
        for name, base in [(row[0], row[-1]) for row in WITH_VALUE + WITHOUT]:
            with self.subTest(name):
                self.assertEqual(getattr(errors, name).__bases__, (base,))

    def test_values_by_position_and_by_name(self):
        for name, attribute, _ in WITH_VALUE:
            kind = getattr(errors, name)
            for value in (0, 5, -1, 10 ** 6):
                with self.subTest(name, value=value):
                    self.assertEqual(vars(kind(value)), {attribute: value})
                    self.assertEqual(vars(kind(**{attribute: value})), {attribute: value})

    def test_value_is_asked_for(self):
        for name, _, _ in WITH_VALUE:
            with self.subTest(name), self.assertRaises(TypeError):
                getattr(errors, name)()

    def test_no_values(self):
        for name, _ in WITHOUT:
            with self.subTest(name):
                self.assertEqual(vars(getattr(errors, name)()), {})

    def test_caught_by_the_class_named(self):
        for name, base in WITHOUT:
            with self.subTest(name), self.assertRaises(base):
                raise getattr(errors, name)()


if __name__ == "__main__":
    unittest.main()
