"""The limits of promises [9], [10] and [15]."""

import unittest

from overlooks.most import MOST, MOST_PEOPLE, MOST_SEARCHED


class Limits(unittest.TestCase):
    def test_most(self):
        self.assertEqual(MOST, 300)
        self.assertIs(type(MOST), int)

    def test_most_searched(self):
        self.assertEqual(MOST_SEARCHED, 2000)
        self.assertIs(type(MOST_SEARCHED), int)

    def test_most_people(self):
        self.assertEqual(MOST_PEOPLE, 16)
        self.assertIs(type(MOST_PEOPLE), int)


if __name__ == "__main__":
    unittest.main()
