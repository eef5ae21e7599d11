"""The limits."""

import unittest

from braidwords import limits


class LimitsTest(unittest.TestCase):
    def test_the_six(self):
        told = {name: value for name, value in vars(limits).items() if not name.startswith("_")}
        self.assertEqual(told, {
            "MOST_LETTERS": 6, "MOST_WORD": 60, "MOST_LENGTH": 200,
            "MOST_WORDS": 3000, "MOST_UNKNOWN": 3, "MOST_TOLD": 20,
        })

    def test_they_are_integers(self):
        for name in ("MOST_LETTERS", "MOST_WORD", "MOST_LENGTH", "MOST_WORDS", "MOST_UNKNOWN", "MOST_TOLD"):
            self.assertIs(type(getattr(limits, name)), int)


if __name__ == "__main__":
    unittest.main()
