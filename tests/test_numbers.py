"""Numbers of rows, promise [9], with the general rules [2] and [3]."""

import itertools
import math
import random
import unittest
from unittest import mock

from overlooks import errors
from overlooks.numbers import all_rows, count_rows, number_of, row_at
from tests.helpers import (
    HUGE, OTHER_PEOPLE, ROW, Cases, as_heights, large_rows, plain_bar, plain_codes, plain_lot,
    plain_lots, plain_runs, random_walk, small_rows,
)

SIXTEEN = (16, 14, 12, 10, 8, 6, 4, 2, 1, 3, 5, 7, 9, 11, 13, 15)


def wanted_count(row):
    """The product of the lengths of the runs."""
    return math.prod(last - first + 1 for first, last in plain_runs(row))


def wrong_numbers(many):
    """Numbers that none of so many rows has."""
    return (-HUGE, -10 ** 30, -many - 1, -many, -2, -1, many, many + 1, 10 ** 30, HUGE)


class Examples(Cases):
    def test_numbers(self):
        self.assert_same(
            (count_rows(ROW), row_at(ROW, 0), number_of(ROW, ROW)),
            (8, (2, 1, 3, 4, 5), 5),
        )

    def test_no_number(self):
        self.assert_raises(errors.NoNumber, {"number": 8}, row_at, row=ROW, number=8)

    def test_all_rows(self):
        self.assert_same(
            all_rows((3, 1, 2, 4)),
            [(2, 1, 3, 4), (2, 1, 4, 3), (3, 1, 2, 4), (4, 1, 2, 3)],
        )

    def test_too_many(self):
        self.assert_raises(
            errors.TooMany, {"many": 576}, all_rows, row=(8, 6, 4, 2, 1, 3, 5, 7)
        )


class AgainstASearch(Cases):
    def assert_lot(self, row, lot):
        """All functions against the rows of the lot, however they are called."""
        wanted = sorted(lot, key=plain_codes)
        self.assert_returns(len(wanted), count_rows, row=row)
        self.assert_returns(wanted, all_rows, row=row)
        for number, reached in enumerate(wanted):
            self.assert_returns(reached, row_at, row=row, number=number)
            self.assert_returns(number, number_of, row=row, other=reached)

    def test_every_row_of_up_to_four_people(self):
        for row in small_rows(4):
            self.assert_lot(row, plain_lot(row))

    def test_other_heights(self):
        heights = (7, 30, 10 ** 8, 10 ** 9 - 1, 10 ** 9)
        for lot in plain_lots(5):
            lot = [as_heights(row, heights) for row in sorted(lot)]
            self.assert_lot(lot[0], lot)
            self.assert_lot(lot[-1], lot)

    def test_every_lot_of_up_to_eight_people(self):
        chosen = random.Random(8)
        for many in range(9):
            for lot in plain_lots(many):
                row = chosen.choice(sorted(lot))
                self.assertEqual(count_rows(row), len(lot))
                if len(lot) <= 300:
                    wanted = sorted(lot, key=plain_codes)
                    self.assert_same(all_rows(row), wanted)
                    self.assertEqual([row_at(row, k) for k in range(len(lot))], wanted)
                    for number, reached in enumerate(wanted):
                        self.assertEqual(number_of(row, reached), number)
                else:
                    self.assert_raises(errors.TooMany, {"many": len(lot)}, all_rows, row=row)


class LargeRows(Cases):
    def test_the_number_of_rows_is_the_product_of_the_lengths_of_the_runs(self):
        for row in large_rows():
            self.assert_returns(wanted_count(row), count_rows, row=row)

    def test_by_hand(self):
        self.assert_returns(1, count_rows, row=())
        self.assert_returns(1, count_rows, row=tuple(range(1, 17)))
        self.assert_returns(1, count_rows, row=(10 ** 9,))
        # The runs of the shortest eight have 1 to 8 indices, the others as many as people are left.
        self.assert_returns(40320 * 40320, count_rows, row=SIXTEEN)

    def test_row_at_and_number_of_take_each_other_back(self):
        chosen = random.Random(9)
        for row in large_rows():
            many = wanted_count(row)
            numbers = {0, many - 1, many // 2, *(chosen.randrange(many) for _ in range(5))}
            for number in sorted(numbers):
                reached = row_at(row, number)
                self.assertIs(type(reached), tuple)
                self.assertEqual(sorted(reached), sorted(row))
                self.assertEqual(plain_runs(reached), plain_runs(row))
                self.assert_same(number_of(row, reached), number)
                self.assert_same(row_at(reached, number), reached)
            _, reached = random_walk(row, 40, seed=len(row))
            self.assert_same(row_at(row, number_of(row, reached)), reached)

    def test_numbers_ascend_with_the_codes(self):
        chosen = random.Random(10)
        for row in large_rows():
            many = wanted_count(row)
            numbers = sorted({0, many - 1, *(chosen.randrange(many) for _ in range(8))})
            found = [plain_codes(row_at(row, number)) for number in numbers]
            self.assertEqual(found, sorted(found))
            self.assertEqual(len(found), len({*found}))

    def test_sixteen_people_however_called(self):
        many = wanted_count(SIXTEEN)
        self.assertGreater(many, 10 ** 8)
        self.assert_returns(many, count_rows, row=SIXTEEN)
        for number in (0, 1, many // 3, many - 1):
            reached = row_at(SIXTEEN, number)
            self.assert_returns(reached, row_at, row=SIXTEEN, number=number)
            self.assert_returns(number, number_of, row=SIXTEEN, other=reached)

    def test_the_first_and_the_last_row(self):
        for row in large_rows():
            first = tuple(low for low, high in plain_runs(row))
            last = tuple(high for low, high in plain_runs(row))
            self.assertEqual(plain_codes(row_at(row, 0)), first)
            self.assertEqual(plain_codes(row_at(row, wanted_count(row) - 1)), last)


class NoNumber(Cases):
    def test_every_other_number(self):
        for row in ((), (7,), (2, 1), ROW, (3, 1, 2, 4), SIXTEEN):
            for number in wrong_numbers(wanted_count(row)):
                self.assert_raises(
                    errors.NoNumber, {"number": number}, row_at, row=row, number=number
                )

    def test_large_rows(self):
        for row in large_rows():
            for number in (-1, wanted_count(row), HUGE):
                with self.assertRaises(LookupError) as caught:
                    row_at(row, number)
                self.assertIs(type(caught.exception), errors.NoNumber)
                self.assertEqual(caught.exception.number, number)


class NumberOf(Cases):
    def test_other_people_comes_first(self):
        for row, other in OTHER_PEOPLE:
            self.assert_raises(errors.OtherPeople, {}, number_of, row=row, other=other)
        with self.assertRaises(ValueError):
            number_of([1, 2], [1])

    def test_barred_with_the_bar(self):
        for many in range(2, 5):
            for row, other in itertools.permutations(itertools.permutations(range(1, many + 1)), 2):
                height = plain_bar(row, other)
                if height is not None:
                    self.assert_raises(
                        errors.Barred, {"height": height}, number_of, row=row, other=other
                    )

    def test_barred_for_large_rows(self):
        for row in large_rows():
            other = tuple(sorted(row))
            height = plain_bar(row, other)
            if height is not None:
                self.assert_raises(
                    errors.Barred, {"height": height}, number_of, row=row, other=other
                )

    def test_barred_is_a_runtime_error(self):
        with self.assertRaises(RuntimeError) as caught:
            number_of([10 ** 8, 10 ** 9, 5], [10 ** 9, 5, 10 ** 8])
        self.assertEqual(caught.exception.height, 5)


class AllRows(Cases):
    def test_by_hand(self):
        self.assert_returns([()], all_rows, row=())
        self.assert_returns([(10 ** 9,)], all_rows, row=(10 ** 9,))
        self.assert_returns([(2, 1)], all_rows, row=(2, 1))
        self.assert_returns([(20, 10, 30), (30, 10, 20)], all_rows, row=(30, 10, 20))

    def test_a_lot_of_288_rows(self):
        lot = next(lot for lot in plain_lots(8) if len(lot) == 288)
        wanted = sorted(lot, key=plain_codes)
        self.assert_returns(wanted, all_rows, row=min(lot))
        # No lot of up to sixteen people has exactly 300 rows, so the limit is moved.
        with mock.patch("overlooks.numbers.MOST", 288):
            self.assert_returns(wanted, all_rows, row=max(lot))
        with mock.patch("overlooks.numbers.MOST", 287):
            self.assert_raises(errors.TooMany, {"many": 288}, all_rows, row=max(lot))

    def test_too_many(self):
        for row in large_rows():
            many = wanted_count(row)
            if many > 300:
                self.assert_raises(errors.TooMany, {"many": many}, all_rows, row=row)
        with self.assertRaises(OverflowError):
            all_rows(SIXTEEN)

    def test_returned_lists_are_new(self):
        first = all_rows(ROW)
        first.clear()
        self.assertEqual(len(all_rows(ROW)), 8)


if __name__ == "__main__":
    unittest.main()
