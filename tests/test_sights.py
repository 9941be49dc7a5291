"""Sights and exchanges, promise [5], with the general rules [2] and [3]."""

import itertools
import unittest

from overlooks import errors
from overlooks.codes import codes
from overlooks.sights import back, exchanged, exchanges, mover, run, sees, sights
from tests.helpers import (
    HUGE, ROW, Cases, large_rows, plain_exchanged, plain_exchanges, plain_sights, random_walk,
    small_rows,
)

WALKS = (0, 1, 2, 3, 10, 100, 999, 1000)
WALKERS = (
    (2, 1, 3),
    ROW,
    (30, 10 ** 9, 10, 20, 40),
    (8, 6, 4, 2, 1, 3, 5, 7),
    (16, 14, 12, 10, 8, 6, 4, 2, 1, 3, 5, 7, 9, 11, 13, 15),
)


def all_test_rows():
    yield from small_rows(5)
    yield from large_rows()


def other_pairs(row):
    """Pairs of numbers that are no exchanges of the row."""
    many = len(row)
    good = plain_exchanges(row)
    near = range(-many - 2, many + 3)
    far = (-HUGE, -10 ** 9, 0, 1, many, 10 ** 9, HUGE)
    pairs = itertools.chain(itertools.product(near, repeat=2), itertools.product(far, repeat=2))
    return [pair for pair in pairs if pair not in good]


class Examples(Cases):
    def test_sees(self):
        self.assert_same((sees(ROW, 3, 5), sees(ROW, 2, 4)), (True, False))

    def test_sights(self):
        self.assert_same(sights(ROW), [(0, 1), (0, 2), (0, 3), (1, 2), (2, 3), (3, 4)])

    def test_exchanges_and_exchanged(self):
        self.assert_same(
            (exchanges(ROW), exchanged(ROW, (0, 3))),
            ([(0, 2), (0, 3)], (5, 1, 2, 3, 4)),
        )

    def test_blocked(self):
        self.assert_raises(errors.Blocked, {"pair": (0, 1)}, exchanged, row=ROW, pair=(0, 1))

    def test_run_and_back(self):
        self.assert_same(
            (run(ROW, [(0, 3), (0, 4)]), back([(0, 3), (0, 4)])),
            ((4, 1, 2, 3, 5), [(0, 4), (0, 3)]),
        )

    def test_mover(self):
        self.assert_same((mover(ROW, (0, 2)), mover(ROW, (0, 3))), ((2, -1), (3, 1)))


class Sees(Cases):
    def test_all_different_people(self):
        for row in all_test_rows():
            seen = plain_sights(row)
            for i, j in itertools.combinations(range(len(row)), 2):
                wanted = (i, j) in seen
                self.assert_returns(wanted, sees, row=row, one=row[i], other=row[j])
                self.assert_returns(wanted, sees, row=row, one=row[j], other=row[i])

    def test_people_who_are_not_there(self):
        for row in ((), (7,), ROW, (70, 10, 30), tuple(range(1, 17))):
            missing = [
                height
                for height in (-HUGE, -2, -1, 0, 1, 6, 50, 10 ** 9, HUGE)
                if height not in row
            ]
            for one in missing:
                for other in (*row, *missing):
                    self.assert_raises(
                        errors.NoPerson, {"height": one}, sees, row=row, one=one, other=other
                    )
            for one in row:
                for other in missing:
                    self.assert_raises(
                        errors.NoPerson, {"height": other}, sees, row=row, one=one, other=other
                    )

    def test_no_person_is_a_lookup_error(self):
        with self.assertRaises(LookupError):
            sees(ROW, 6, 7)


class Sights(Cases):
    def test_against_a_plain_look(self):
        for row in all_test_rows():
            self.assert_returns(plain_sights(row), sights, row=row)

    def test_by_hand(self):
        self.assert_returns([], sights, row=())
        self.assert_returns([], sights, row=(5,))
        self.assert_returns([(0, 1)], sights, row=(5, 7))
        self.assert_returns([(0, 1), (0, 2), (1, 2)], sights, row=(5, 1, 7))
        self.assert_returns([(0, 1), (1, 2)], sights, row=(5, 6, 7))


class Exchanges(Cases):
    def test_sights_with_somebody_between(self):
        for row in all_test_rows():
            self.assert_returns(plain_exchanges(row), exchanges, row=row)

    def test_by_hand(self):
        self.assert_returns([], exchanges, row=())
        self.assert_returns([], exchanges, row=(1, 2))
        self.assert_returns([(0, 2)], exchanges, row=(2, 1, 3))
        self.assert_returns([], exchanges, row=(1, 2, 3))
        self.assert_returns([(0, 3), (1, 3)], exchanges, row=(4, 2, 1, 3))


class Exchanged(Cases):
    def test_every_exchange(self):
        for row in all_test_rows():
            for pair in plain_exchanges(row):
                wanted = plain_exchanged(row, pair)
                self.assert_returns(wanted, exchanged, row=row, pair=pair)
                self.assert_same(exchanged(wanted, pair), row)

    def test_every_other_pair(self):
        for row in all_test_rows():
            if len(row) < 5 or row[0] == 16:
                for pair in other_pairs(row):
                    self.assert_raises(
                        errors.Blocked, {"pair": pair}, exchanged, row=row, pair=pair
                    )

    def test_wrong_order_equal_and_neighbours(self):
        for pair in ((2, 0), (3, 0), (0, 0), (2, 2), (0, 1), (1, 0), (3, 4), (0, 4), (1, 3)):
            self.assert_raises(errors.Blocked, {"pair": pair}, exchanged, row=ROW, pair=pair)

    def test_beyond_the_row_and_negative(self):
        # (-5, -3) would be the exchange (0, 2), counted from the end.
        for pair in ((-5, -3), (-5, 2), (0, -3), (0, 5), (3, 5), (-1, 1), (-HUGE, HUGE), (0, HUGE)):
            self.assert_raises(errors.Blocked, {"pair": pair}, exchanged, row=ROW, pair=pair)

    def test_blocked_is_a_runtime_error(self):
        with self.assertRaises(RuntimeError) as caught:
            exchanged([3, 1, 2], [0, 1])
        self.assert_same(caught.exception.pair, (0, 1))


class Run(Cases):
    def test_lists_of_exchanges(self):
        for row in WALKERS:
            for many in WALKS:
                pairs, wanted = random_walk(row, many, seed=many)
                self.assertEqual(len(pairs), many)
                self.assert_returns(wanted, run, row=row, pairs=pairs)

    def test_the_empty_list(self):
        for row in all_test_rows():
            self.assert_returns(row, run, row=row, pairs=[])

    def test_one_pair_is_none(self):
        for row in WALKERS:
            for many in (1, 2, 3, 30):
                pairs, _ = random_walk(row, many, seed=many)
                for at in range(0, many, 1 + many // 4):
                    before, _ = random_walk(row, at, seed=many)
                    reached = run(row, before)
                    for wrong in other_pairs(reached)[::7]:
                        given = pairs[:at] + [wrong] + pairs[at:]
                        self.assert_raises(
                            errors.Blocked, {"pair": wrong}, run, row=row, pairs=given
                        )

    def test_the_first_that_is_none(self):
        given = [(0, 3), (3, 1), (0, 1), (0, HUGE)]
        self.assert_raises(errors.Blocked, {"pair": (3, 1)}, run, row=ROW, pairs=given)

    def test_a_pair_that_was_possible_earlier(self):
        self.assert_same(exchanges((3, 1, 2, 4)), [(0, 2), (0, 3)])
        given = [(0, 2), (0, 3), (2, 3)]
        self.assert_raises(errors.Blocked, {"pair": (0, 3)}, run, row=(3, 1, 2, 4), pairs=given)

    def test_a_pair_that_becomes_possible_only_later(self):
        self.assert_same(exchanges((2, 1, 3, 4)), [(0, 2)])
        self.assert_returns((4, 1, 2, 3), run, row=(2, 1, 3, 4), pairs=[(0, 2), (0, 3)])

    def test_no_people(self):
        self.assert_raises(errors.Blocked, {"pair": (0, 2)}, run, row=(), pairs=[(0, 2)])


class Back(Cases):
    def test_takes_every_walk_back(self):
        for row in WALKERS:
            for many in WALKS:
                pairs, reached = random_walk(row, many, seed=many)
                wanted = [pairs[at] for at in range(many - 1, -1, -1)]
                self.assert_returns(wanted, back, pairs=pairs)
                self.assert_same(run(reached, back(pairs)), row)

    def test_looks_at_no_row(self):
        self.assert_returns([], back, pairs=[])
        self.assert_returns([(7, 7), (3, 0), (0, 1)], back, pairs=[(0, 1), (3, 0), (7, 7)])


class Mover(Cases):
    def test_the_change_of_the_code_of_the_shorter_one(self):
        for row in all_test_rows():
            heights = sorted(row)
            for i, j in plain_exchanges(row):
                shorter = min(row[i], row[j])
                wanted = (shorter, 1 if row[i] == shorter else -1)
                self.assert_returns(wanted, mover, row=row, pair=(i, j))
                before, after = codes(row), codes(plain_exchanged(row, (i, j)))
                changes = [
                    (height, new - old)
                    for height, old, new in zip(heights, before, after)
                    if old != new
                ]
                self.assertEqual(changes, [wanted])

    def test_every_other_pair(self):
        for row in ((), (1,), (2, 1, 3), (1, 2, 3), ROW, tuple(range(1, 17))):
            for pair in other_pairs(row):
                self.assert_raises(errors.Blocked, {"pair": pair}, mover, row=row, pair=pair)


if __name__ == "__main__":
    unittest.main()
