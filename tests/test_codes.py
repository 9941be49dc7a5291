"""Codes, promise [6], with the general rules [2] and [3]."""

import itertools
import unittest

from overlooks.codes import codes, is_codes, row_with
from tests.helpers import (
    HUGE, ODD_ITEMS, ROW, Cases, large_rows, odd_values, plain_codes, plain_exchanged,
    plain_exchanges, small_rows,
)


def all_codes(many):
    return itertools.product(*(range(many - k) for k in range(many)))


class Examples(Cases):
    def test_codes(self):
        self.assert_same(
            (codes(ROW), codes((5, 1, 2, 3, 4))),
            ((1, 1, 0, 1, 0), (1, 1, 1, 1, 0)),
        )

    def test_is_codes(self):
        self.assert_same(
            (is_codes(ROW, (4, 3, 2, 1, 0)), is_codes(ROW, (0, 0, 3, 0, 0))),
            (True, False),
        )

    def test_row_with(self):
        self.assert_same(
            (row_with(ROW, (4, 3, 2, 1, 0)), row_with((20, 10), (0, 0))),
            ((5, 4, 3, 2, 1), (10, 20)),
        )


class Codes(Cases):
    def test_against_the_definition(self):
        for row in (*small_rows(5), *large_rows()):
            self.assert_returns(plain_codes(row), codes, row=row)

    def test_by_hand(self):
        self.assert_returns((), codes, row=())
        self.assert_returns((0,), codes, row=(10 ** 9,))
        self.assert_returns((0, 0, 0), codes, row=(1, 2, 3))
        self.assert_returns((2, 1, 0), codes, row=(30, 20, 10))
        self.assert_returns((1, 0, 0), codes, row=(20, 10, 30))

    def test_every_exchange_changes_exactly_one_code_by_one(self):
        for row in (*small_rows(5), *large_rows()):
            for pair in plain_exchanges(row):
                changes = [
                    abs(new - old)
                    for old, new in zip(codes(row), codes(plain_exchanged(row, pair)))
                ]
                self.assertEqual(sorted(changes), [0] * (len(row) - 1) + [1])


class IsCodes(Cases):
    def assert_judged(self, row, thing, wanted):
        self.assert_returns(wanted, is_codes, row=row, thing=thing)

    def test_the_codes_of_rows(self):
        for row in (*small_rows(5), *large_rows()):
            self.assert_judged(row, plain_codes(row), True)
            self.assert_judged(row[::-1], plain_codes(row), True)

    def test_tuples_of_numbers(self):
        for row in ((), (9,), (3, 8), (7, 5, 6), (1, 10 ** 9, 2, 3)):
            good = set(all_codes(len(row)))
            for many in range(len(row) + 2):
                for thing in itertools.product(range(-1, many + 1), repeat=many):
                    self.assert_judged(row, thing, thing in good)

    def test_the_greatest_codes_and_one_more(self):
        row = tuple(range(1, 17))
        greatest = tuple(range(15, -1, -1))
        self.assert_judged(row, greatest, True)
        self.assert_judged(row, (0,) * 16, True)
        for at in range(16):
            for wrong in (greatest[at] + 1, 16, -1, HUGE, -HUGE):
                self.assert_judged(row, greatest[:at] + (wrong,) + greatest[at + 1:], False)

    def test_lists(self):
        for row in small_rows():
            self.assert_judged(row, list(plain_codes(row)), False)

    def test_one_wrong_item_anywhere_is_enough(self):
        for row in small_rows(3):
            good = plain_codes(row)
            for at in range(len(row)):
                for wrong in ODD_ITEMS:
                    self.assert_judged(row, good[:at] + (wrong,) + good[at + 1:], False)

    def test_another_length(self):
        for row in small_rows():
            good = plain_codes(row)
            self.assert_judged(row, good + (0,), False)
            self.assert_judged(row, (0,) + good, False)
            if row:
                self.assert_judged(row, good[:-1], False)
                self.assert_judged(row, good[1:], False)

    def test_values_of_every_other_kind(self):
        for row in ((), (5,), (5, 8), ROW):
            good = set(all_codes(len(row)))
            for thing in odd_values():
                plain = isinstance(thing, tuple) and all(type(item) is int for item in thing)
                self.assert_judged(row, thing, plain and thing in good)

    def test_judged_whatever_the_bounds(self):
        self.assert_judged(ROW, tuple(range(3000, -1, -1)), False)
        self.assert_judged(ROW, (0,) * 3000, False)


class RowWith(Cases):
    def test_all_codes(self):
        for row in ((), (9,), (3, 8), (7, 5, 6), (1, 10 ** 9, 2, 3), (5, 3, 1, 2, 4)):
            reached = set()
            for given in all_codes(len(row)):
                wanted = row_with(row, given)
                self.assertEqual(plain_codes(wanted), given)
                self.assertEqual(sorted(wanted), sorted(row))
                self.assert_returns(wanted, row_with, row=row, codes=given)
                reached.add(wanted)
            self.assertEqual(reached, set(itertools.permutations(row)))

    def test_whatever_the_order_in_which_the_row_stands(self):
        for row in large_rows():
            for stood in (row, row[::-1], tuple(sorted(row)), row[1:] + row[:1]):
                self.assert_returns(row, row_with, row=stood, codes=plain_codes(row))


if __name__ == "__main__":
    unittest.main()
