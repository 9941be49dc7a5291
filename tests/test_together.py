"""What promise [1] says of numbers, lots and chances together, guarantees (a) to (e)."""

import math
import random
import unittest
from fractions import Fraction

from overlooks.chances import chance_before, chances_of
from overlooks.codes import codes
from overlooks.leading import bar, leads
from overlooks.lots import count_lots, lot_row, signature, signature_at, signature_number
from overlooks.numbers import all_rows, count_rows, number_of, row_at
from overlooks.rows import mirrored, ranks
from overlooks.runs import runs
from overlooks.sights import exchanged, exchanges, mover
from tests.helpers import as_heights, large_rows, plain_lots, random_walk, small_rows


class Exchanges(unittest.TestCase):
    def some_rows(self):
        yield from small_rows(5)
        yield from large_rows()

    def test_exactly_one_code_changes_by_one(self):
        for row in self.some_rows():
            for pair in exchanges(row):
                height, step = mover(row, pair)
                wanted = list(codes(row))
                wanted[sorted(row).index(height)] += step
                self.assertEqual(codes(exchanged(row, pair)), tuple(wanted))

    def test_the_number_changes_by_the_combinations_of_the_taller_people(self):
        for row in self.some_rows():
            here = number_of(row, row)
            for pair in exchanges(row):
                height, step = mover(row, pair)
                taller = [
                    last - first + 1
                    for other, (first, last) in zip(sorted(row), runs(row))
                    if other > height
                ]
                after = exchanged(row, pair)
                self.assertEqual(number_of(row, after), here + step * math.prod(taller))
                self.assertEqual(number_of(after, after), number_of(row, after))


class SameLot(unittest.TestCase):
    def test_small_lots(self):
        for many in range(7):
            lots = list(plain_lots(many))
            self.assertEqual(len(lots), count_lots(many))
            for lot in lots:
                first = min(lot)
                self.assertEqual(count_rows(first), len(lot))
                for row in lot:
                    self.assertEqual(count_rows(row), len(lot))
                    self.assertEqual(runs(row), runs(first))
                    self.assertEqual(signature(row), signature(first))

    def test_along_walks(self):
        for row in large_rows():
            for many in (1, 10, 60):
                _, reached = random_walk(row, many, seed=many)
                self.assertTrue(leads(row, reached))
                self.assertEqual(count_rows(reached), count_rows(row))
                self.assertEqual(runs(reached), runs(row))
                self.assertEqual(signature(reached), signature(row))
                self.assertEqual(row_at(reached, 0), row_at(row, 0))

    def test_lots_and_numbers(self):
        chosen = random.Random(3)
        for many in range(17):
            for _ in range(10):
                number = chosen.randrange(count_lots(many))
                first = lot_row(many, signature_at(many, number))
                self.assertEqual(number_of(first, first), 0)
                other = row_at(first, chosen.randrange(count_rows(first)))
                self.assertEqual(signature_number(many, signature(other)), number)
                self.assertEqual(number_of(other, first), 0)
                self.assertIsNone(bar(first, other))


class AsManyRows(unittest.TestCase):
    def test_turned_about(self):
        for row in (*small_rows(6), *large_rows()):
            self.assertEqual(count_rows(mirrored(row)), count_rows(row))

    def test_other_heights(self):
        chosen = random.Random(5)
        for row in (*small_rows(6), *large_rows()):
            heights = sorted(chosen.sample(range(1, 10 ** 9 + 1), len(row)))
            other = as_heights(ranks(row), heights)
            self.assertEqual(count_rows(other), count_rows(row))
            self.assertEqual(runs(other), runs(row))
            self.assertEqual(signature(other), signature(row))


class Chances(unittest.TestCase):
    def test_against_all_rows(self):
        for row in small_rows(5):
            lot = all_rows(row)
            for height in row:
                counts = [0] * len(row)
                for reached in lot:
                    counts[reached.index(height)] += 1
                wanted = [Fraction(count, count_rows(row)) for count in counts]
                self.assertEqual([Fraction(*one) for one in chances_of(row, height)], wanted)

    def test_denominators_divide_the_number_of_rows(self):
        for row in large_rows():
            many = count_rows(row)
            for one, other in zip(row, row[1:]):
                self.assertEqual(many % chance_before(row, one, other)[1], 0)

    def test_the_same_for_every_row_of_a_lot(self):
        for row in large_rows():
            _, reached = random_walk(row, 20, seed=2)
            for height in row:
                self.assertEqual(chances_of(reached, height), chances_of(row, height))


if __name__ == "__main__":
    unittest.main()
