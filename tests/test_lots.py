"""Lots of all rows, promise [11], with the general rules [2] and [3]."""

import itertools
import math
import random
import unittest
from collections import Counter

from overlooks import errors
from overlooks.lots import (
    count_lots, is_signature, lot_row, lot_sizes, signature, signature_at, signature_number,
)
from tests.helpers import (
    HUGE, ODD_ITEMS, ROW, Cases, as_heights, large_rows, odd_values, plain_codes, plain_lots,
    plain_runs, plain_signature, small_rows,
)


def rows_of(many):
    """All rows of the heights 1 to many."""
    return itertools.permutations(range(1, many + 1))


def wanted_signatures(many):
    """The signatures of all rows of these people, ascending."""
    return sorted({plain_signature(row) for row in rows_of(many)})


class Examples(Cases):
    def test_count_lots(self):
        self.assert_same(
            (count_lots(0), count_lots(1), count_lots(2), count_lots(3), count_lots(4)),
            (1, 1, 2, 5, 14),
        )

    def test_signatures(self):
        self.assert_same(
            (signature(ROW), signature((3, 1, 2)), is_signature(3, (1, 1, 0))),
            ((1, 0, 0, 0, 0), (1, 0, 0), False),
        )

    def test_rows_and_numbers(self):
        self.assert_same(
            (lot_row(5, (1, 0, 0, 0, 0)), signature_at(3, 0), signature_number(3, (1, 0, 0))),
            ((2, 1, 3, 4, 5), (0, 0, 0), 2),
        )

    def test_no_number(self):
        self.assert_raises(errors.NoNumber, {"number": 5}, signature_at, many=3, number=5)

    def test_lot_sizes(self):
        self.assert_same(
            (lot_sizes(3), lot_sizes(4)),
            ([(1, 4), (2, 1)], [(1, 8), (2, 4), (4, 2)]),
        )


class CountLots(Cases):
    def test_the_recursion(self):
        wanted = [1, 1]
        for many in range(2, 17):
            wanted.append(2 * wanted[many - 1] + (many - 2) * wanted[many - 2])
        for many in range(17):
            self.assert_returns(wanted[many], count_lots, many=many)
        self.assertEqual(wanted[16], 266906858)

    def test_against_all_rows(self):
        for many in range(7):
            self.assert_returns(len(list(plain_lots(many))), count_lots, many=many)


class LotSizes(Cases):
    def test_against_all_rows(self):
        for many in range(7):
            sizes = Counter(len(lot) for lot in plain_lots(many))
            self.assert_returns(sorted(sizes.items()), lot_sizes, many=many)

    def test_sums(self):
        for many in range(13):
            sizes = lot_sizes(many)
            self.assert_returns(sizes, lot_sizes, many=many)
            self.assertEqual(sizes, sorted(sizes))
            self.assertEqual(len({size for size, lots in sizes}), len(sizes))
            self.assertTrue(all(size >= 1 and lots >= 1 for size, lots in sizes))
            self.assertEqual(sum(size * lots for size, lots in sizes), math.factorial(many))
            self.assertEqual(sum(lots for size, lots in sizes), count_lots(many))

    def test_by_hand(self):
        self.assert_returns([(1, 1)], lot_sizes, many=0)
        self.assert_returns([(1, 1)], lot_sizes, many=1)
        self.assert_returns([(1, 2)], lot_sizes, many=2)


class Signature(Cases):
    def test_small_rows(self):
        for row in small_rows(5):
            self.assert_returns(plain_signature(row), signature, row=row)
        for row in rows_of(6):
            self.assert_same(signature(row), plain_signature(row))

    def test_other_heights(self):
        heights = (7, 30, 10 ** 8, 10 ** 9)
        for row in small_rows(4):
            self.assert_returns(plain_signature(row), signature, row=as_heights(row, heights))

    def test_large_rows(self):
        for row in large_rows():
            self.assert_returns(plain_signature(row), signature, row=row)

    def test_the_same_signature_exactly_in_the_same_lot(self):
        for many in range(7):
            found = []
            for lot in plain_lots(many):
                signatures = {signature(row) for row in lot}
                self.assertEqual(len(signatures), 1)
                found += signatures
            self.assertEqual(len(found), len({*found}))


class IsSignature(Cases):
    def assert_judged(self, many, thing, wanted):
        self.assert_returns(wanted, is_signature, many=many, thing=thing)

    def test_exactly_those_of_the_rows(self):
        for many in range(6):
            wanted = {*wanted_signatures(many)}
            numbers = (*range(-1, many + 1), HUGE) if many < 5 else range(-1, many + 1)
            for thing in itertools.product(numbers, repeat=many):
                self.assertIs(is_signature(many, thing), thing in wanted)
            for thing in wanted:
                self.assert_judged(many, thing, True)

    def test_another_length(self):
        for many in range(6):
            for other in {*range(8)} - {many}:
                for thing in itertools.islice(wanted_signatures(min(other, 5)), 50):
                    thing = (0,) * (other - len(thing)) + thing
                    self.assertIs(is_signature(many, thing), False)
        for many in (0, 1, 5, 16):
            self.assert_judged(many, (0,) * many, True)
            self.assert_judged(many, (0,) * (many + 1), False)
            self.assert_judged(many, (0,) * 1000, False)
            if many:
                self.assert_judged(many, (0,) * (many - 1), False)

    def test_the_same_values_of_other_kinds(self):
        self.assert_judged(3, (1, 0, 0), True)
        for thing in (
            [1, 0, 0], (True, 0, 0), (1, False, 0), (1, 0, False), ([1], 0, 0), (1, (0,), 0),
            ((1, 0, 0),), [(1, 0, 0)], ("1", 0, 0), "100", (1, 0, None), (1, 0, "0"), (1, 0, [0]),
            100, True, False, None, (1, 0, ()), (1, 0, HUGE), (1, 0, -HUGE),
        ):
            self.assert_judged(3, thing, False)

    def test_one_wrong_item_is_enough(self):
        for many in (1, 2, 5, 16):
            for thing in ((0,) * many, signature_at(many, count_lots(many) - 1)):
                self.assert_judged(many, thing, True)
                for at in range(many):
                    for wrong in (*ODD_ITEMS, many - at, HUGE):
                        self.assert_judged(many, thing[:at] + (wrong,) + thing[at + 1:], False)

    def test_values_of_every_kind(self):
        for many in (0, 1, 2, 3):
            wanted = wanted_signatures(many)
            for thing in odd_values():
                # A bool equals a number, so the kinds are compared as well.
                kinds = isinstance(thing, tuple) and all(type(item) is int for item in thing)
                self.assert_judged(many, thing, kinds and thing in wanted)

    def test_large_rows(self):
        for row in large_rows():
            self.assertIs(is_signature(len(row), plain_signature(row)), True)
            self.assertIs(is_signature(len(row) + 1, plain_signature(row)), False)


class LotRow(Cases):
    def test_the_first_row_of_each_lot(self):
        for many in range(7):
            for lot in plain_lots(many):
                first = min(lot, key=plain_codes)
                given = plain_signature(max(lot))
                if many < 6:
                    self.assert_returns(first, lot_row, many=many, signature=given)
                self.assert_same(lot_row(many, given), first)
                self.assertEqual(signature(first), given)

    def test_large_signatures(self):
        for many in range(17):
            for row in itertools.islice(rows_of(many), 20):
                self.assert_first(many, plain_signature(row))
            chosen = random.Random(many)
            for _ in range(20):
                row = tuple(chosen.sample(range(1, many + 1), many))
                self.assert_first(many, plain_signature(row))

    def assert_first(self, many, given):
        found = lot_row(many, given)
        self.assertEqual(sorted(found), list(range(1, many + 1)))
        self.assertEqual(plain_signature(found), given)
        # The least codes of all are the first ones of the runs.
        wanted = tuple(first for first, last in plain_runs(found))
        self.assertEqual(plain_codes(found), wanted)

    def test_sixteen_people_however_called(self):
        given = (8, 7, 6, 5, 4, 3, 2, 1, *[0] * 8)
        self.assertTrue(is_signature(16, given))
        found = lot_row(16, given)
        self.assert_first(16, given)
        self.assert_returns(found, lot_row, many=16, signature=given)


class SignatureNumbers(Cases):
    def test_against_all_rows(self):
        for many in range(7):
            wanted = wanted_signatures(many)
            for number, given in enumerate(wanted):
                self.assert_returns(given, signature_at, many=many, number=number)
                self.assert_returns(number, signature_number, many=many, signature=given)

    def test_they_take_each_other_back(self):
        for many in range(17):
            total = count_lots(many)
            chosen = random.Random(many)
            numbers = {0, total - 1, total // 2, *(chosen.randrange(total) for _ in range(30))}
            found = [signature_at(many, number) for number in sorted(numbers)]
            self.assertEqual(found, sorted(found))
            self.assertEqual(len({*found}), len(numbers))
            for number, given in zip(sorted(numbers), found):
                self.assertIs(is_signature(many, given), True)
                self.assert_same(signature_number(many, given), number)
                self.assertEqual(signature(lot_row(many, given)), given)
        for row in large_rows():
            given = plain_signature(row)
            self.assertEqual(signature_at(len(row), signature_number(len(row), given)), given)

    def test_neighbours_of_sixteen_people(self):
        total = count_lots(16)
        for number in (0, 1, 1000, total // 3, total - 2):
            one, other = signature_at(16, number), signature_at(16, number + 1)
            self.assertLess(one, other)
            self.assert_returns(one, signature_at, many=16, number=number)
            self.assert_returns(number, signature_number, many=16, signature=one)
            # The other one goes on with the least numbers where they differ.
            at = next(at for at in range(16) if one[at] != other[at])
            self.assertEqual(other[at], one[at] + 1)
            self.assertEqual(other[at + 1:], (0,) * (15 - at))

    def test_no_number(self):
        for many in range(17):
            total = count_lots(many)
            for number in (-HUGE, -total, -2, -1, total, total + 1, 10 ** 30, HUGE):
                self.assert_raises(
                    errors.NoNumber, {"number": number}, signature_at, many=many, number=number
                )
        with self.assertRaises(LookupError):
            signature_at(0, 1)


if __name__ == "__main__":
    unittest.main()
