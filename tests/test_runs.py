"""Runs, promise [7], with the general rules [2] and [3]."""

import unittest

from overlooks import errors
from overlooks.codes import codes
from overlooks.runs import free_people, run_list, runs
from tests.helpers import (
    HUGE, ROW, Cases, large_rows, plain_exchanged, plain_exchanges, plain_lot, plain_run_lists,
    plain_runs, small_rows,
)


class Examples(Cases):
    def test_runs(self):
        self.assert_same(runs(ROW), ((1, 1), (0, 1), (0, 1), (0, 1), (0, 0)))

    def test_run_list(self):
        self.assert_same(
            (run_list(ROW, 2), run_list(ROW, 3), run_list(ROW, 4)),
            ([(0, 1), (2, 2), (3, 3)], [(0, 1), (2, 2)], [(0, 1)]),
        )
        self.assert_same(
            (run_list((1, 3, 4, 2, 5), 3), run_list((1, 3, 4, 2, 5), 4)),
            ([(0, 0), (1, 2)], [(0, 1)]),
        )

    def test_free_people(self):
        self.assert_same((free_people(ROW), free_people((1, 2, 3))), ([2, 3, 4], []))


class Runs(Cases):
    def test_against_the_making_of_the_runs(self):
        for row in (*small_rows(6), *large_rows()):
            self.assert_returns(plain_runs(row), runs, row=row)

    def test_by_hand(self):
        self.assert_returns((), runs, row=())
        self.assert_returns(((0, 0),), runs, row=(10 ** 9,))
        self.assert_returns(((0, 0), (0, 0)), runs, row=(5, 9))
        self.assert_returns(((1, 1), (0, 0)), runs, row=(9, 5))
        self.assert_returns(((1, 1), (0, 1), (0, 0)), runs, row=(20, 10, 30))

    def test_an_exchange_changes_none(self):
        for row in (*small_rows(5), *large_rows()):
            for pair in plain_exchanges(row):
                self.assert_same(runs(plain_exchanged(row, pair)), runs(row))

    def test_each_code_stays_in_its_run_and_has_all_its_indices(self):
        for row in small_rows(5):
            lot = [codes(reached) for reached in plain_lot(row)]
            for at, (first, last) in enumerate(runs(row)):
                self.assertEqual({one[at] for one in lot}, set(range(first, last + 1)))


class RunList(Cases):
    def test_against_the_making_of_the_runs(self):
        for row in (*small_rows(5), *large_rows()):
            for height, wanted in zip(sorted(row), plain_run_lists(row)):
                self.assert_returns(wanted, run_list, row=row, height=height)

    def test_the_shortest_and_the_tallest_person(self):
        for row in large_rows():
            if row:
                wanted = [(index, index) for index in range(len(row))]
                self.assert_same(run_list(row, min(row)), wanted)
                self.assert_same(run_list(row, max(row)), [(0, 0)])

    def test_the_run_of_a_person_is_in_their_list(self):
        for row in large_rows():
            for height, own in zip(sorted(row), runs(row)):
                self.assertIn(own, run_list(row, height))

    def test_people_who_are_not_there(self):
        for row in ((), (7,), ROW, (70, 10, 30), tuple(range(1, 17))):
            for height in (-HUGE, -2, -1, 0, 1, 6, 50, 10 ** 9, 10 ** 9 + 1, HUGE):
                if height not in row:
                    self.assert_raises(
                        errors.NoPerson, {"height": height}, run_list, row=row, height=height
                    )

    def test_no_person_is_a_lookup_error(self):
        with self.assertRaises(LookupError):
            run_list(ROW, 0)


class FreePeople(Cases):
    def test_against_the_making_of_the_runs(self):
        for row in (*small_rows(5), *large_rows()):
            wanted = [
                height
                for height, (first, last) in zip(sorted(row), plain_runs(row))
                if first != last
            ]
            self.assert_returns(wanted, free_people, row=row)

    def test_by_hand(self):
        self.assert_returns([], free_people, row=())
        self.assert_returns([], free_people, row=(4,))
        self.assert_returns([20], free_people, row=(30, 10, 20))


if __name__ == "__main__":
    unittest.main()
