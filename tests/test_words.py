"""Numbers in the words of texts."""

import unittest

from meetbehind.words import number_of
from tests.samples import Checks


class NumberTest(Checks, unittest.TestCase):

    def test_numbers(self):
        for word, number in (("0", 0), ("1", 1), ("10", 10), ("99", 99), ("100", 100)):
            self.assert_same(number_of(word, 0, 100), number)

    def test_bounds(self):
        self.assert_same([number_of(word, 1, 99) for word in ("0", "1", "99", "100")], [None, 1, 99, None])

    def test_words_that_write_no_number(self):
        for word in ("", " ", "-1", "+1", "1 ", " 1", "1.", "01", "00", "1_0", "a", "1\n", "9" * 20000, "0" * 20000):
            self.assertIsNone(number_of(word, 0, 1000), word)


if __name__ == "__main__":
    unittest.main()
