"""Chances, promise [12], with the general rules [2] and [3]."""

import itertools
import math
import random
import unittest
from fractions import Fraction

from overlooks import errors
from overlooks.chances import chance_before, chances_of, expected_place, places_of
from tests.helpers import HUGE, ROW, Cases, large_rows, plain_lot, plain_lots

MISSING = (-HUGE, -2, -1, 0, 6, 50, 10 ** 9, 10 ** 9 + 1, HUGE)


def pair(part, whole):
    """The fraction as the document writes it."""
    value = Fraction(part, whole)
    return (value.numerator, value.denominator)


class Examples(Cases):
    def test_chance_before(self):
        self.assert_same(
            (chance_before(ROW, 3, 1), chance_before(ROW, 5, 4), chance_before((3, 1, 2, 4), 3, 2)),
            ((1, 4), (1, 2), (1, 4)),
        )

    def test_chances_of(self):
        self.assert_same(
            (chances_of((3, 1, 2, 4), 2), chances_of((3, 1, 2, 4), 3)),
            ([(1, 2), (0, 1), (1, 2), (0, 1)], [(1, 4), (0, 1), (1, 4), (1, 2)]),
        )

    def test_places_of_and_expected_place(self):
        self.assert_same((places_of(ROW, 1), expected_place(ROW, 5)), ([1], (3, 1)))

    def test_no_person(self):
        self.assert_raises(errors.NoPerson, {"height": 6}, expected_place, row=ROW, height=6)


class AgainstAllRows(Cases):
    def assert_all_chances(self, row, lot, check):
        """Every chance of the row against the rows that it leads to."""
        for height in row:
            places = [reached.index(height) for reached in lot]
            wanted = [pair(places.count(place), len(lot)) for place in range(len(row))]
            check(wanted, chances_of, row=row, height=height)
            check(sorted(set(places)), places_of, row=row, height=height)
            check(pair(sum(places), len(lot)), expected_place, row=row, height=height)
        for one, other in itertools.permutations(row, 2):
            before = sum(reached.index(one) < reached.index(other) for reached in lot)
            check(pair(before, len(lot)), chance_before, row=row, one=one, other=other)

    def test_every_row_of_up_to_four_people(self):
        for many in range(5):
            for row in itertools.permutations((7, 30, 10 ** 8, 10 ** 9)[:many]):
                self.assert_all_chances(row, sorted(plain_lot(row)), self.assert_returns)

    def test_every_lot_of_five_people(self):
        for lot in plain_lots(5):
            self.assert_all_chances(max(lot), sorted(lot), self.assert_returns)

    def test_every_lot_of_six_and_seven_people(self):
        def check(wanted, function, **arguments):
            self.assert_same(function(**arguments), wanted)

        for many in (6, 7):
            for lot in plain_lots(many):
                row = random.Random(len(lot)).choice(sorted(lot))
                self.assert_all_chances(row, sorted(lot), check)


class LargeRows(Cases):
    def assert_lowest_terms(self, fraction):
        self.assertIs(type(fraction), tuple)
        part, whole = fraction
        self.assertEqual([type(part), type(whole)], [int, int])
        self.assertGreaterEqual(whole, 1)
        self.assertGreaterEqual(part, 0)
        self.assertEqual(math.gcd(part, whole), 1)

    def test_the_chances_of_a_person_sum_up_to_1(self):
        for row in large_rows():
            for height in row:
                chances = chances_of(row, height)
                self.assertEqual(len(chances), len(row))
                for chance in chances:
                    self.assert_lowest_terms(chance)
                self.assertEqual(sum(Fraction(*chance) for chance in chances), 1)

    def test_the_chances_of_a_place_sum_up_to_1(self):
        for row in large_rows():
            table = [chances_of(row, height) for height in row]
            for place in range(len(row)):
                self.assertEqual(sum(Fraction(*chances[place]) for chances in table), 1)

    def test_one_or_other_is_before(self):
        for row in large_rows():
            for one, other in itertools.combinations(row, 2):
                chance, opposite = chance_before(row, one, other), chance_before(row, other, one)
                self.assert_lowest_terms(chance)
                self.assert_lowest_terms(opposite)
                self.assertEqual(Fraction(*chance) + Fraction(*opposite), 1)

    def test_the_average_place_is_the_sum_of_the_chances_of_all_others_before(self):
        for row in large_rows():
            for height in row:
                others = [other for other in row if other != height]
                wanted = sum(Fraction(*chance_before(row, other, height)) for other in others)
                self.assert_same(expected_place(row, height), pair(wanted, 1))

    def test_the_average_place_follows_from_the_chances(self):
        for row in large_rows():
            for height in row:
                chances = chances_of(row, height)
                wanted = sum(place * Fraction(*chance) for place, chance in enumerate(chances))
                self.assert_same(expected_place(row, height), pair(wanted, 1))

    def test_the_places_are_those_with_a_chance(self):
        for row in large_rows():
            for height in row:
                chances = chances_of(row, height)
                wanted = [place for place, chance in enumerate(chances) if chance != (0, 1)]
                self.assert_same(places_of(row, height), wanted)

    def test_sixteen_people_however_called(self):
        row = (16, 14, 12, 10, 8, 6, 4, 2, 1, 3, 5, 7, 9, 11, 13, 15)
        self.assert_returns((1, 2), chance_before, row=row, one=15, other=16)
        self.assert_returns((1, 2), chance_before, row=row, one=16, other=15)
        self.assert_returns([8], places_of, row=row, height=1)
        self.assert_returns((8, 1), expected_place, row=row, height=1)
        self.assert_returns(
            [(0, 1)] * 7 + [(1, 2), (0, 1), (1, 2)] + [(0, 1)] * 6, chances_of, row=row, height=2
        )

    def test_rows_that_lead_to_themselves_alone(self):
        for row in (tuple(range(1, 17)), tuple(range(10 ** 9, 10 ** 9 - 16, -1)), (5,), (6, 5)):
            for place, height in enumerate(row):
                wanted = [(0, 1)] * len(row)
                wanted[place] = (1, 1)
                self.assert_returns(wanted, chances_of, row=row, height=height)
                self.assert_returns([place], places_of, row=row, height=height)
                self.assert_returns((place, 1), expected_place, row=row, height=height)
            for one, other in itertools.combinations(row, 2):
                self.assert_returns((1, 1), chance_before, row=row, one=one, other=other)
                self.assert_returns((0, 1), chance_before, row=row, one=other, other=one)


class NotThere(Cases):
    def test_one_height(self):
        for row in ((), (7,), ROW, (70, 10, 30)):
            for height in MISSING:
                for function in (chances_of, places_of, expected_place):
                    self.assert_raises(
                        errors.NoPerson, {"height": height}, function, row=row, height=height
                    )

    def test_one_before_other(self):
        for row in ((), (7,), ROW, (70, 10, 30)):
            for one in MISSING:
                for other in (*row, *MISSING):
                    self.assert_raises(
                        errors.NoPerson, {"height": one},
                        chance_before, row=row, one=one, other=other,
                    )
            for one, other in itertools.product(row, MISSING):
                self.assert_raises(
                    errors.NoPerson, {"height": other}, chance_before, row=row, one=one, other=other
                )


if __name__ == "__main__":
    unittest.main()
