"""Rows, promise [4], with the general rules [2] and [3]."""

import itertools
import unittest

from overlooks import errors
from overlooks.rows import is_row, mirrored, ranks, with_person, without
from tests.helpers import HUGE, Cases, small_rows

HEIGHTS = (1, 2, 3, 10 ** 9, 10 ** 9 + 1, HUGE)
NOT_HEIGHTS = (
    True, False, None, 0, -1, -HUGE, "", "1", "row",
    [], [1], (), (1,), ((1,),), [(2, 3)],
)
ROWS = (
    (),
    (1,),
    (10 ** 9,),
    (70, 10),
    (70, 10, 30),
    (3, 1, 2, 5, 4),
    (10 ** 9, 1, 10 ** 9 - 1, 2),
    tuple(range(1, 17)),
    tuple(range(10 ** 9, 10 ** 9 - 16, -1)),
    (16, 1, 15, 2, 14, 3, 13, 4, 12, 5, 11, 6, 10, 7, 9, 8),
)


def all_test_rows():
    yield from ROWS
    yield from small_rows()
    for many in range(5):
        yield from itertools.permutations((40, 7, 10 ** 9, 300)[:many])


class Examples(Cases):
    def test_is_row(self):
        self.assertEqual((is_row((3, 1, 2)), is_row((3, 3)), is_row([1])), (True, False, False))

    def test_ranks_and_mirrored(self):
        self.assertEqual((ranks((70, 10, 30)), mirrored((70, 10, 30))), ((3, 1, 2), (30, 10, 70)))

    def test_with_person_and_without(self):
        self.assertEqual(
            (with_person((70, 10), 1, 40), without((70, 10, 30), 10)),
            ((70, 40, 10), (70, 30)),
        )

    def test_no_place(self):
        self.assert_raises(
            errors.NoPlace, {"place": 3}, with_person, row=(70, 10), place=3, height=40
        )


class IsRow(Cases):
    def assert_judged(self, thing, wanted):
        self.assert_returns(wanted, is_row, thing=thing)

    def test_all_test_rows(self):
        for row in all_test_rows():
            self.assert_judged(row, True)

    def test_tuples_of_heights_are_rows_exactly_if_none_is_there_twice(self):
        for many in range(5):
            for places in itertools.product(range(len(HEIGHTS)), repeat=many):
                thing = tuple(HEIGHTS[at] for at in places)
                different = all(one != other for one, other in itertools.combinations(places, 2))
                self.assert_judged(thing, different)

    def test_one_wrong_item_anywhere_is_enough(self):
        for wrong in NOT_HEIGHTS:
            for row in small_rows():
                for place in range(len(row) + 1):
                    self.assert_judged(row[:place] + (wrong,) + row[place:], False)

    def test_two_wrong_items(self):
        for wrong in itertools.product(NOT_HEIGHTS, repeat=2):
            self.assert_judged(wrong, False)
            self.assert_judged((5,) + wrong, False)

    def test_true_beside_one_and_false_beside_zero(self):
        for thing in ((1, True), (True, 1), (True, 2), (False, 1), (0, False), (True,), (False,)):
            self.assert_judged(thing, False)

    def test_lists_are_no_rows(self):
        for row in all_test_rows():
            self.assert_judged(list(row), False)

    def test_values_that_are_no_tuples(self):
        for thing in (0, 1, -1, 12, HUGE, "", "1", "3 1 2", "(1, 2)", None, True, False, [], [[]]):
            self.assert_judged(thing, False)

    def test_values_nested_up_to_six_levels(self):
        for inner in ((), (1,), (1, 2), [], [1], 1, None, "a", True):
            for depth in range(2, 6):
                for wraps in itertools.product((0, 1, 2), repeat=depth):
                    thing = inner
                    for wrap in wraps:
                        thing = ((thing,), [thing], (1, thing))[wrap]
                    # From two wrappings on, a list or a tuple is inside.
                    self.assert_judged(thing, False)

    def test_judged_whatever_the_bounds(self):
        self.assert_judged(tuple(range(1, 18)), True)
        self.assert_judged(tuple(range(3000, 0, -1)), True)
        self.assert_judged(tuple(range(3000, -1, -1)), False)
        self.assert_judged(tuple(range(1, 3001)) + (1500,), False)
        self.assert_judged((10 ** 9 + 1, 10 ** 100, HUGE), True)
        self.assert_judged((HUGE, 10 ** 9 + 1, HUGE), False)


class Ranks(Cases):
    def test_every_rank_counts_the_people_who_are_not_taller(self):
        for row in all_test_rows():
            wanted = tuple(sum(other <= height for other in row) for height in row)
            self.assert_returns(wanted, ranks, row=row)

    def test_by_hand(self):
        self.assert_same(ranks(()), ())
        self.assert_same(ranks((10 ** 9,)), (1,))
        self.assert_same(ranks((5, 10 ** 9, 7, 6)), (1, 4, 3, 2))

    def test_ranks_of_ranks(self):
        for row in all_test_rows():
            self.assert_same(ranks(ranks(row)), ranks(row))


class Mirrored(Cases):
    def test_every_place(self):
        for row in all_test_rows():
            wanted = tuple(row[len(row) - 1 - place] for place in range(len(row)))
            self.assert_returns(wanted, mirrored, row=row)

    def test_by_hand(self):
        self.assert_same(mirrored(()), ())
        self.assert_same(mirrored((8,)), (8,))
        self.assert_same(mirrored((3, 1, 2, 5, 4)), (4, 5, 2, 1, 3))

    def test_twice(self):
        for row in all_test_rows():
            self.assert_same(mirrored(mirrored(row)), row)


class WithPerson(Cases):
    def test_every_place(self):
        for row in all_test_rows():
            for place in range(len(row) + 1):
                wanted = list(row)
                wanted.insert(place, 10 ** 8)
                self.assert_returns(
                    tuple(wanted), with_person, row=row, place=place, height=10 ** 8
                )

    def test_into_the_empty_row(self):
        self.assert_same(with_person((), 0, 1), (1,))
        self.assert_same(with_person([], 0, 10 ** 9), (10 ** 9,))

    def test_places_that_do_not_exist(self):
        for row in all_test_rows():
            many = len(row)
            for place in (-HUGE, -many - 1, -many, -2, -1, many + 1, many + 2, 10 ** 9, HUGE):
                if not 0 <= place <= many:
                    self.assert_raises(
                        errors.NoPlace, {"place": place},
                        with_person, row=row, place=place, height=10 ** 8,
                    )

    def test_people_who_are_there_already(self):
        for row in all_test_rows():
            for height in row:
                for place in range(len(row) + 1):
                    self.assert_raises(
                        errors.Known, {"height": height},
                        with_person, row=row, place=place, height=height,
                    )

    def test_the_place_is_checked_first(self):
        for row in all_test_rows():
            for height in row:
                for place in (-HUGE, -1, len(row) + 1, HUGE):
                    self.assert_raises(
                        errors.NoPlace, {"place": place},
                        with_person, row=row, place=place, height=height,
                    )


class Without(Cases):
    def test_everybody(self):
        for row in all_test_rows():
            for place, height in enumerate(row):
                wanted = row[:place] + row[place + 1:]
                self.assert_returns(wanted, without, row=row, height=height)

    def test_people_who_are_not_there(self):
        for row in all_test_rows():
            for height in (-HUGE, -70, -1, 0, 1, 6, 20, 10 ** 9, 10 ** 9 + 1, HUGE):
                if height not in row:
                    self.assert_raises(
                        errors.NoPerson, {"height": height}, without, row=row, height=height
                    )

    def test_takes_with_person_back(self):
        for row in all_test_rows():
            for place in range(len(row) + 1):
                self.assert_same(without(with_person(row, place, 10 ** 8), 10 ** 8), row)

    def test_is_taken_back_by_with_person(self):
        for row in all_test_rows():
            for place, height in enumerate(row):
                self.assert_same(with_person(without(row, height), place, height), row)


if __name__ == "__main__":
    unittest.main()
