"""The fewest exchanges, promise [10], with the general rules [2] and [3]."""

import itertools
import random
import unittest
from unittest import mock

from overlooks import errors
from overlooks.leading import shows_exchanges, steps
from overlooks.small import distance, farthest, plan
from tests.helpers import (
    OTHER_PEOPLE, ROW, Cases, as_heights, large_rows, plain_bar, plain_exchanged, plain_exchanges,
    plain_lot, plain_lots, small_rows,
)

# Rows whose lots have 1,440, 1,920 and 1,944 rows.
SEARCHED = (
    (5, 4, 3, 1, 6, 2, 7, 8, 9),
    (2, 1, 5, 7, 4, 3, 8, 9, 10, 6, 11),
    (2, 1, 3, 5, 6, 4, 7, 8, 9, 10, 11),
)
# Rows whose lots are too large, with the numbers of their rows.
TOO_LARGE = (
    ((3, 1, 4, 2, 7, 8, 9, 6, 5, 10, 11), 2160),
    ((4, 3, 2, 1, 5, 6, 7, 8, 9), 2304),
    ((6, 5, 4, 3, 2, 1, 7, 8, 9), 2304),
    ((16, 14, 12, 10, 8, 6, 4, 2, 1, 3, 5, 7, 9, 11, 13, 15), 40320 * 40320),
)


def plain_plans(row):
    """For each row of the lot, the first of the shortest lists that lead there."""
    plans = {row: []}
    latest = [row]
    while latest:
        found = {}
        for reached in latest:
            for pair in plain_exchanges(reached):
                after = plain_exchanged(reached, pair)
                if after not in plans:
                    pairs = plans[reached] + [pair]
                    found[after] = min(found.get(after, pairs), pairs)
        plans.update(found)
        latest = list(found)
    return plans


class Examples(Cases):
    def test_distance_and_plan(self):
        other = (4, 1, 2, 3, 5)
        self.assert_same((distance(ROW, other), plan(ROW, other)), (2, [(0, 3), (0, 4)]))

    def test_longer_than_steps(self):
        one, other = (2, 1, 4, 3), (2, 1, 3, 4)
        self.assert_same((distance(one, other), steps(one, other), farthest(one)), (3, 1, 3))


class AgainstASearch(Cases):
    def test_every_row_of_up_to_four_people(self):
        for row in small_rows(4):
            self.assert_all_plans(row)

    def test_every_lot_of_five_people_of_other_heights(self):
        heights = (7, 30, 10 ** 8, 10 ** 9 - 1, 10 ** 9)
        for lot in plain_lots(5):
            self.assert_all_plans(as_heights(max(lot), heights))

    def assert_all_plans(self, row):
        """All functions from this row, however they are called."""
        plans = plain_plans(row)
        self.assert_returns(max(map(len, plans.values())), farthest, row=row)
        for other, wanted in plans.items():
            self.assert_returns(len(wanted), distance, one=row, other=other)
            self.assert_returns(wanted, plan, one=row, other=other)

    def test_every_pair_of_rows_of_five_people(self):
        for row in itertools.permutations(range(1, 6)):
            plans = plain_plans(row)
            self.assertEqual(farthest(row), max(map(len, plans.values())))
            for other, wanted in plans.items():
                self.assertEqual(distance(row, other), len(wanted))
                self.assert_same(plan(row, other), wanted)

    def test_rows_of_six_people(self):
        chosen = random.Random(6)
        for row in itertools.permutations(range(1, 7)):
            plans = plain_plans(row)
            self.assertEqual(farthest(row), max(map(len, plans.values())))
            for other in chosen.sample(sorted(plans), min(len(plans), 2)):
                self.assertEqual(distance(row, other), len(plans[other]))
                self.assert_same(plan(row, other), plans[other])

    def test_lots_of_many_rows(self):
        for row in SEARCHED:
            plans = plain_plans(row)
            self.assertGreater(len(plans), 1400)
            self.assertEqual(farthest(row), max(map(len, plans.values())))
            chosen = random.Random(len(row)).sample(sorted(plans), 4)
            for other in (row, max(plans, key=lambda end: len(plans[end])), *chosen):
                self.assertEqual(distance(row, other), len(plans[other]))
                self.assert_same(plan(row, other), plans[other])
                self.assertIs(shows_exchanges(row, other, plans[other]), True)


class Plans(Cases):
    def test_from_a_row_to_itself(self):
        for row in (*small_rows(4), *SEARCHED[:1]):
            self.assert_returns([], plan, one=row, other=row)
            self.assert_returns(0, distance, one=row, other=row)

    def test_rows_that_lead_to_themselves_alone(self):
        for row in ((), (7,), (6, 5), tuple(range(1, 17)), tuple(range(10 ** 9, 10 ** 9 - 16, -1))):
            self.assert_returns(0, farthest, row=row)
            self.assert_returns(0, distance, one=row, other=row)
            self.assert_returns([], plan, one=row, other=row)

    def test_both_ways(self):
        for lot in plain_lots(5):
            for one, other in itertools.combinations(sorted(lot), 2):
                self.assertEqual(distance(one, other), distance(other, one))
                self.assertGreaterEqual(distance(one, other), steps(one, other))

    def test_sixteen_people(self):
        row = (1, 3, 12, 5, 13, 11, 6, 14, 8, 15, 10, 9, 2, 16, 7, 4)
        plans = plain_plans(row)
        self.assertEqual(len(plans), 1920)
        other = max(plans, key=lambda end: (len(plans[end]), end))
        self.assert_same(farthest(row), len(plans[other]))
        self.assert_same(plan(row, other), plans[other])


class Errors(Cases):
    def test_other_people_comes_first(self):
        for one, other in OTHER_PEOPLE:
            self.assert_raises(errors.OtherPeople, {}, distance, one=one, other=other)
            self.assert_raises(errors.OtherPeople, {}, plan, one=one, other=other)
        for row, _ in TOO_LARGE:
            for other in (row[:-1], row + (17,), row[:-1] + (20,), ()):
                self.assert_raises(errors.OtherPeople, {}, distance, one=row, other=other)
                self.assert_raises(errors.OtherPeople, {}, plan, one=other, other=row)

    def test_barred_with_the_bar(self):
        for many in range(2, 5):
            for one, other in itertools.permutations(itertools.permutations(range(1, many + 1)), 2):
                height = plain_bar(one, other)
                if height is not None:
                    wanted = {"height": height}
                    self.assert_raises(errors.Barred, wanted, distance, one=one, other=other)
                    self.assert_raises(errors.Barred, wanted, plan, one=one, other=other)
        for row in large_rows():
            other = tuple(sorted(row))
            height = plain_bar(row, other)
            if height is not None:
                wanted = {"height": height}
                self.assert_raises(errors.Barred, wanted, distance, one=row, other=other)
                self.assert_raises(errors.Barred, wanted, plan, one=row, other=other)

    def test_barred_comes_before_too_many(self):
        for row, _ in TOO_LARGE:
            other = tuple(sorted(row))
            wanted = {"height": plain_bar(row, other)}
            self.assertIsNotNone(wanted["height"])
            self.assert_raises(errors.Barred, wanted, distance, one=row, other=other)
            self.assert_raises(errors.Barred, wanted, distance, one=other, other=row)
            self.assert_raises(errors.Barred, wanted, plan, one=row, other=other)
            self.assert_raises(errors.Barred, wanted, plan, one=other, other=row)

    def test_too_many_whatever_the_other_row_is(self):
        for row, many in TOO_LARGE:
            near = plain_exchanged(row, plain_exchanges(row)[0])
            for other in (row, near):
                wanted = {"many": many}
                self.assert_raises(errors.TooMany, wanted, distance, one=row, other=other)
                self.assert_raises(errors.TooMany, wanted, plan, one=row, other=other)
                self.assert_raises(errors.TooMany, wanted, farthest, row=other)
        with self.assertRaises(OverflowError):
            farthest(list(TOO_LARGE[0][0]))

    def test_the_limit_itself(self):
        # No lot of up to sixteen people has exactly 2,000 rows, so the limit is moved.
        row = (5, 3, 1, 2, 4)
        many = len(plain_lot(row))
        self.assertGreater(many, 1)
        with mock.patch("overlooks.small.MOST_SEARCHED", many):
            self.assertEqual(plan(row, row), [])
            self.assertEqual(distance(row, row), 0)
            self.assertGreater(farthest(row), 0)
        with mock.patch("overlooks.small.MOST_SEARCHED", many - 1):
            self.assert_raises(errors.TooMany, {"many": many}, plan, one=row, other=row)
            self.assert_raises(errors.TooMany, {"many": many}, distance, one=row, other=row)
            self.assert_raises(errors.TooMany, {"many": many}, farthest, row=row)


if __name__ == "__main__":
    unittest.main()
