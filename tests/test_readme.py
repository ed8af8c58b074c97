"""What README.md shows is what the program answers."""

import doctest
import pathlib
import unittest

README = pathlib.Path(__file__).resolve().parent.parent / "README.md"


class Readme(unittest.TestCase):
    def test_what_it_shows(self):
        outcome = doctest.testfile(str(README), module_relative=False)
        self.assertGreater(outcome.attempted, 0)
        self.assertEqual(outcome.failed, 0)


if __name__ == "__main__":
    unittest.main()
