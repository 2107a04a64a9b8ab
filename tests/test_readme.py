"""README.md: what its examples show is what the program does."""

import builtins
import doctest
import unittest
from pathlib import Path

README = Path(__file__).resolve().parent.parent / "README.md"


class Readme(unittest.TestCase):
    def test_examples(self):
        # What is shown stays in builtins, and is of no use to other tests.
        self.addCleanup(vars(builtins).pop, "_", None)
        failed, tried = doctest.testfile(str(README), module_relative=False)
        self.assertEqual(failed, 0)
        self.assertGreater(tried, 0)


if __name__ == "__main__":
    unittest.main()
