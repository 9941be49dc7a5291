"""Which row leads to which, promise [8], with the general rules [2] and [3]."""

import itertools
import unittest

from overlooks import errors
from overlooks.leading import bar, differences, leads, shows_exchanges, steps
from tests.helpers import (
    HUGE, ODD_ITEMS, OTHER_PEOPLE, ROW, Cases, as_heights, large_rows, odd_values, plain_bar,
    plain_codes, plain_exchanged, plain_exchanges, plain_lots, random_walk,
)


def wanted_differences(one, other):
    return [
        (height, here, there)
        for height, here, there in zip(sorted(one), plain_codes(one), plain_codes(other))
        if here != there
    ]


def turns_into(one, other, thing):
    """Whether thing is a list of exchanges from one to other, by a plain look."""
    if type(thing) is not list:
        return False
    for pair in thing:
        if type(pair) is not tuple or [type(item) for item in pair] != [int, int]:
            return False
        if pair not in plain_exchanges(one):
            return False
        one = plain_exchanged(one, pair)
    return one == other


class Examples(Cases):
    def test_leads_and_bar(self):
        self.assert_same(
            (leads(ROW, (4, 1, 2, 3, 5)), leads(ROW, (3, 2, 1, 5, 4)), bar(ROW, (3, 2, 1, 5, 4))),
            (True, False, 1),
        )
        self.assert_same(
            (bar((3, 1, 2, 4), (3, 1, 4, 2)), bar((3, 1, 2, 4), (2, 1, 4, 3))),
            (2, None),
        )

    def test_differences_and_steps(self):
        self.assert_same(
            (differences(ROW, (4, 1, 2, 3, 5)), steps(ROW, (4, 1, 2, 3, 5))),
            ([(3, 0, 1), (4, 1, 0)], 2),
        )

    def test_barred(self):
        self.assert_raises(errors.Barred, {"height": 1}, steps, one=ROW, other=(3, 2, 1, 5, 4))

    def test_other_people(self):
        self.assert_raises(errors.OtherPeople, {}, leads, one=(1, 2), other=(1, 3))

    def test_shows_exchanges(self):
        self.assert_same(shows_exchanges(ROW, (4, 1, 2, 3, 5), [(0, 3), (0, 4)]), True)


class TwoRows(Cases):
    def test_other_people_comes_first(self):
        for one, other in OTHER_PEOPLE:
            for function in (leads, bar, differences, steps):
                self.assert_raises(errors.OtherPeople, {}, function, one=one, other=other)
            for thing in ([], [(0, 2)], None, 5, "x", (), [[]], [(True, 2)], [(0, HUGE)]):
                self.assert_raises(
                    errors.OtherPeople, {}, shows_exchanges, one=one, other=other, thing=thing
                )

    def test_other_people_is_a_value_error(self):
        with self.assertRaises(ValueError):
            steps([1, 2], [1])

    def test_all_pairs_of_small_rows(self):
        for many in range(5):
            lots = list(plain_lots(many))
            heights = (7, 30, 10 ** 9 - 1, 10 ** 9)
            for here, there in itertools.product(range(len(lots)), repeat=2):
                for one, other in itertools.product(sorted(lots[here]), sorted(lots[there])):
                    self.assert_pair(one, other, here == there)
                    self.assert_pair(
                        as_heights(one, heights), as_heights(other, heights), here == there
                    )

    def assert_pair(self, one, other, wanted):
        """All functions of two rows, the first of which leads to the other one if wanted."""
        self.assert_returns(wanted, leads, one=one, other=other)
        barred = plain_bar(one, other)
        self.assertEqual(barred is None, wanted)
        self.assert_returns(barred, bar, one=one, other=other)
        different = wanted_differences(one, other)
        self.assert_returns(different, differences, one=one, other=other)
        if wanted:
            total = sum(abs(here - there) for _, here, there in different)
            self.assert_returns(total, steps, one=one, other=other)
        else:
            self.assert_raises(errors.Barred, {"height": barred}, steps, one=one, other=other)

    def test_rows_of_five_and_six_people_against_a_search(self):
        for many in (5, 6):
            lots = list(plain_lots(many))
            firsts = [min(lot) for lot in lots]
            for lot in lots:
                for one in lot:
                    for other in firsts:
                        self.assertIs(leads(one, other), other in lot)
                        self.assertEqual(bar(one, other) is None, other in lot)

    def test_large_rows(self):
        for row in large_rows():
            _, reached = random_walk(row, 60, seed=7)
            self.assert_pair(row, reached, True)
            backwards = row[::-1]
            self.assert_pair(row, backwards, plain_bar(row, backwards) is None)
            self.assert_pair(row, tuple(sorted(row)), plain_bar(row, tuple(sorted(row))) is None)


class Bar(Cases):
    def test_by_hand(self):
        self.assert_returns(None, bar, one=(), other=())
        self.assert_returns(None, bar, one=(8,), other=(8,))
        self.assert_returns(8, bar, one=(8, 9), other=(9, 8))
        self.assert_returns(8, bar, one=(9, 8), other=(8, 9))
        self.assert_returns(20, bar, one=(10, 20, 30), other=(10, 30, 20))
        self.assert_returns(10 ** 8, bar, one=(1, 10 ** 8, 10 ** 9), other=(1, 10 ** 9, 10 ** 8))


class Steps(Cases):
    def test_no_walk_is_shorter(self):
        for row in large_rows():
            for many in (0, 1, 2, 5, 20):
                pairs, reached = random_walk(row, many, seed=many)
                self.assertLessEqual(steps(row, reached), len(pairs))

    def test_a_walk_may_have_to_be_longer(self):
        self.assert_returns(1, steps, one=(2, 1, 4, 3), other=(2, 1, 3, 4))

    def test_barred_is_a_runtime_error(self):
        with self.assertRaises(RuntimeError) as caught:
            steps([1, 2], [2, 1])
        self.assertEqual(caught.exception.height, 1)


class ShowsExchanges(Cases):
    def assert_judged(self, one, other, thing, wanted):
        self.assert_returns(wanted, shows_exchanges, one=one, other=other, thing=thing)

    def test_all_short_lists(self):
        for one in ((), (1,), (2, 1), (2, 1, 3), (3, 1, 2, 4), (1, 2, 3, 4)):
            places = range(-1, len(one) + 1)
            pairs = [pair for pair in itertools.product(places, repeat=2) if pair[0] < pair[1]]
            others = [plain_exchanged(one, pair) for pair in plain_exchanges(one)]
            others += [one, one[::-1]]
            for many in range(3):
                for thing in itertools.product(pairs, repeat=many):
                    for other in others:
                        thing = list(thing)
                        self.assert_judged(one, other, thing, turns_into(one, other, thing))

    def test_walks(self):
        for row in ((2, 1, 3), ROW, (16, 14, 12, 10, 8, 6, 4, 2, 1, 3, 5, 7, 9, 11, 13, 15)):
            for many in (1, 2, 3, 100, 1000, 3000):
                pairs, reached = random_walk(row, many, seed=many)
                self.assert_judged(row, reached, pairs, True)
                self.assert_judged(row, reached, pairs + [pairs[-1], pairs[-1]], True)
                self.assert_judged(row, reached, pairs + pairs[-1:], False)
                self.assert_judged(row, reached, pairs[:-1], False)
                self.assert_judged(row, reached, pairs[1:], turns_into(row, reached, pairs[1:]))

    def test_the_same_values_of_other_kinds(self):
        pairs = [(0, 3), (0, 4)]
        other = (4, 1, 2, 3, 5)
        self.assert_judged(ROW, other, pairs, True)
        for thing in (
            tuple(pairs), [[0, 3], [0, 4]], [(0, 3), [0, 4]], [[0, 3], (0, 4)], [pairs], (pairs,),
            [(False, 3), (0, 4)], [(0, 3), (False, 4)], [(0, 3, 0), (0, 4)], [(0,), (0, 4)],
            [0, 3, 0, 4],
            ["03", "04"], "0-3 0-4", [("0", "3"), ("0", "4")], [(0, 3), (0, 4), None], [(0, 3), ()],
            5, True, False, None,
        ):
            self.assert_judged(ROW, other, thing, False)

    def test_bools_for_places(self):
        # As numbers, True and False would be the places of an exchange.
        one, other = (1, 3, 2, 4), (1, 4, 2, 3)
        self.assert_judged(one, other, [(1, 3)], True)
        self.assert_judged(one, other, [(True, 3)], False)
        self.assert_judged((3, 1, 2), (2, 1, 3), [(0, 2)], True)
        self.assert_judged((3, 1, 2), (2, 1, 3), [(False, 2)], False)

    def test_one_wrong_item_anywhere_is_enough(self):
        pairs, reached = random_walk(ROW, 4, seed=1)
        self.assert_judged(ROW, reached, pairs, True)
        for wrong in (*ODD_ITEMS, 0, 1, HUGE, (0, HUGE), (-5, -3), (2, 0), (0, 1)):
            for at in range(len(pairs)):
                self.assert_judged(ROW, reached, pairs[:at] + [wrong] + pairs[at:], False)
                self.assert_judged(ROW, reached, pairs[:at] + [wrong] + pairs[at + 1:], False)
        for wrong in ODD_ITEMS:
            self.assert_judged(ROW, reached, [(wrong, 2), *pairs], False)
            self.assert_judged(ROW, reached, [*pairs, (0, wrong)], False)

    def test_values_of_every_kind(self):
        for one, other in (((), ()), ((7,), (7,)), ((2, 1, 3), (2, 1, 3)), ((2, 1, 3), (3, 1, 2))):
            for thing in odd_values():
                self.assert_judged(one, other, thing, turns_into(one, other, thing))


if __name__ == "__main__":
    unittest.main()
