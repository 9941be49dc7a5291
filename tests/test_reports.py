"""Reports of unknown heights, promise [14], with the general rules [2] and [3]."""

import itertools
import random
import unittest

from overlooks import errors
from overlooks.reports import (
    comparisons, cycle, end_of, fit, heights_for, shows_cycle, surely_shorter,
)
from tests.helpers import (
    HUGE, ODD_ITEMS, Cases, odd_values, plain_exchanged, plain_exchanges, random_walk,
)


def all_reports(many):
    return [(i, j) for i in range(many) for j in range(i + 2, many)]


def small_cases():
    """Few people with all short lists of reports."""
    for many, most in ((0, 0), (1, 0), (2, 0), (3, 4), (4, 4), (5, 2)):
        for length in range(most + 1):
            for reports in itertools.product(all_reports(many), repeat=length):
                yield many, list(reports)


def middle_cases():
    """Five people with longer lists of reports, possible and impossible ones."""
    chosen = random.Random(14)
    for _ in range(40):
        heights = tuple(chosen.sample(range(1, 6), 5))
        reports, _ = random_walk(heights, chosen.randrange(1, 9), seed=chosen.random())
        yield 5, reports
        yield 5, [chosen.choice(all_reports(5)) for _ in range(chosen.randrange(3, 7))]


def possible_cases():
    """Up to twelve people with up to sixty reports that some heights allow."""
    chosen = random.Random(60)
    for many in (*range(13), *[12] * 20):
        heights = tuple(chosen.sample(range(1, many + 1), many))
        reports, _ = random_walk(heights, 60, seed=many)
        yield many, heights, reports


def any_cases():
    """Up to twelve people with up to sixty reports of which many contradict each other."""
    chosen = random.Random(12)
    for length in (*range(1, 12), 20, 40, 60, 60, 60):
        for many in (6, 9, 12):
            yield many, [chosen.choice(all_reports(many)) for _ in range(length)]


def plain_comparisons(many, reports):
    """The comparisons and the last order by the document's words."""
    standing = tuple(range(many))
    found = set()
    for i, j in reports:
        for k in range(i + 1, j):
            found |= {(standing[k], standing[i]), (standing[k], standing[j])}
        standing = plain_exchanged(standing, (i, j))
    return sorted(found), standing


def are_exchanges(heights, reports):
    """Whether people of these heights can do what is reported, by doing it."""
    for pair in reports:
        if pair not in plain_exchanges(heights):
            return False
        heights = plain_exchanged(heights, pair)
    return True


def fitting_orders(many, reports):
    orders = itertools.permutations(range(1, many + 1))
    return [heights for heights in orders if are_exchanges(heights, reports)]


def is_plain_cycle(pairs, thing):
    """Whether thing is a list of at least two people, none twice, each shorter than the next."""
    if type(thing) is not list or any(type(person) is not int for person in thing):
        return False
    if len(thing) < 2 or len(thing) != len(set(thing)):
        return False
    return all((thing[at - 1], thing[at]) in pairs for at in range(len(thing)))


class Examples(Cases):
    def test_comparisons_and_end_of(self):
        self.assert_same(
            (comparisons(4, [(0, 2), (0, 3)]), end_of(4, [(0, 2), (0, 3)])),
            ([(0, 2), (0, 3), (1, 0), (1, 2), (1, 3)], (3, 1, 0, 2)),
        )

    def test_heights_for_and_fit(self):
        self.assert_same(
            (heights_for(4, [(0, 2), (0, 3)]), fit(4, [(0, 2), (0, 3)], (5, 1, 9, 7))),
            ((2, 1, 3, 4), True),
        )
        self.assert_same(heights_for(5, [(0, 2), (2, 4)]), (3, 1, 4, 2, 5))

    def test_surely_shorter(self):
        reports = [(0, 2), (0, 3)]
        self.assert_same(
            (surely_shorter(4, reports, 0, 3), surely_shorter(4, reports, 2, 3)), (True, False)
        )

    def test_cycle_and_shows_cycle(self):
        self.assert_same(
            (sorted(cycle(4, [(0, 2), (1, 3)])), shows_cycle(4, [(0, 2), (1, 3)], [0, 1])),
            ([0, 1], True),
        )


class Comparisons(Cases):
    def assert_seen(self, many, reports):
        pairs, standing = plain_comparisons(many, reports)
        self.assert_returns(pairs, comparisons, many=many, reports=reports)
        self.assert_returns(standing, end_of, many=many, reports=reports)

    def test_against_the_words_of_the_document(self):
        for many, reports in (*small_cases(), *middle_cases(), *any_cases()):
            self.assert_seen(many, reports)
        for many, _, reports in possible_cases():
            self.assert_seen(many, reports)

    def test_by_hand(self):
        self.assert_returns([], comparisons, many=0, reports=[])
        self.assert_returns((), end_of, many=0, reports=[])
        self.assert_returns([], comparisons, many=12, reports=[])
        self.assert_returns(tuple(range(12)), end_of, many=12, reports=[])
        self.assert_returns([(1, 0), (1, 2)], comparisons, many=3, reports=[(0, 2)] * 60)
        self.assert_returns((0, 1, 2), end_of, many=3, reports=[(0, 2)] * 60)
        self.assert_returns((2, 1, 0), end_of, many=3, reports=[(0, 2)] * 59)


class Fit(Cases):
    def assert_judged(self, many, reports, thing, wanted):
        self.assert_returns(wanted, fit, many=many, reports=reports, thing=thing)

    def test_all_tuples_of_small_numbers(self):
        for many, reports in small_cases():
            if many < 4 or len(reports) < 3:
                for thing in itertools.product(range(min(many, 4) + 1), repeat=min(many, 4)):
                    rising = len(thing) == many == len(set(thing)) and 0 not in thing
                    wanted = rising and are_exchanges(thing, reports)
                    self.assert_same(fit(many, reports, thing), wanted)

    def test_all_orders(self):
        for many, reports in (*small_cases(), *middle_cases()):
            for heights in itertools.permutations(range(1, many + 1)):
                wanted = are_exchanges(heights, reports)
                self.assert_same(fit(many, reports, heights), wanted)
                self.assert_same(fit(many, reports, [*heights]), False)

    def test_many_people(self):
        for many, heights, reports in possible_cases():
            self.assert_judged(many, reports, heights, True)
            self.assert_judged(many, reports, tuple(height * HUGE for height in heights), True)
            self.assert_judged(many, reports, list(heights), False)
            self.assert_judged(many, reports, heights + (99,), False)
            if many:
                self.assert_judged(many, reports, heights[:-1], False)
                self.assert_judged(many, reports, heights[:-1] + heights[:1], many == 1)
            for at, wrong in itertools.product(range(many), (True, 0, -1, None, "1", (1,), [1])):
                self.assert_judged(many, reports, heights[:at] + (wrong,) + heights[at + 1:], False)

    def test_bools_for_heights(self):
        # As numbers, True and False would be heights that fit.
        self.assert_judged(3, [(0, 2)], (2, 1, 3), True)
        self.assert_judged(3, [(0, 2)], (2, True, 3), False)
        self.assert_judged(1, [], (True,), False)
        self.assert_judged(1, [], (1,), True)

    def test_values_of_every_kind(self):
        for many, reports in ((0, []), (1, []), (2, []), (3, [(0, 2)])):
            for thing in odd_values():
                plain = type(thing) is tuple and all(type(item) is int for item in thing)
                wanted = (
                    plain and len(thing) == len(set(thing)) == many and min(thing, default=1) > 0
                    and are_exchanges(thing, reports)
                )
                self.assert_judged(many, reports, thing, wanted)

    def test_none_fits_a_contradiction(self):
        for heights in itertools.permutations(range(1, 5)):
            self.assert_judged(4, [(0, 2), (1, 3)], heights, False)


class Heights(Cases):
    def assert_contradiction(self, function, many, reports, **more):
        found = cycle(many, reports)
        self.assertIs(is_plain_cycle(plain_comparisons(many, reports)[0], found), True)
        self.assert_raises(
            errors.Contradiction, {"cycle": found}, function, many=many, reports=reports, **more
        )

    def assert_against_all_orders(self, many, reports):
        fitting = fitting_orders(many, reports)
        if fitting:
            self.assert_returns(fitting[0], heights_for, many=many, reports=reports)
            self.assert_returns(None, cycle, many=many, reports=reports)
        else:
            self.assert_contradiction(heights_for, many, reports)
            self.assert_returns(cycle(many, reports), cycle, many=many, reports=reports)
        for one, other in itertools.permutations(range(many), 2):
            if fitting:
                wanted = all(heights[one] < heights[other] for heights in fitting)
                self.assert_returns(
                    wanted, surely_shorter, many=many, reports=reports, one=one, other=other
                )
            else:
                self.assert_contradiction(surely_shorter, many, reports, one=one, other=other)

    def test_up_to_five_people_against_all_orders(self):
        for many, reports in (*small_cases(), *middle_cases()):
            self.assert_against_all_orders(many, reports)

    def test_six_people_against_all_orders(self):
        for seed in range(12):
            heights = tuple(random.Random(seed).sample(range(1, 7), 6))
            reports, _ = random_walk(heights, 2 + seed // 4, seed=seed)
            self.assert_against_all_orders(6, reports)

    def test_no_people_and_no_reports(self):
        for many in range(13):
            wanted = tuple(range(1, many + 1))
            self.assert_returns(wanted, heights_for, many=many, reports=[])
            self.assert_returns(None, cycle, many=many, reports=[])
            for one, other in itertools.permutations(range(many), 2):
                self.assert_same(surely_shorter(many, [], one, other), False)

    def test_many_people_with_possible_reports(self):
        for many, heights, reports in possible_cases():
            self.assert_returns(None, cycle, many=many, reports=reports)
            found = heights_for(many, reports)
            self.assert_returns(found, heights_for, many=many, reports=reports)
            self.assertEqual(sorted(found), list(range(1, many + 1)))
            self.assertTrue(are_exchanges(found, reports))
            self.assertLessEqual(found, heights)

    def test_many_people_against_chains_of_comparisons(self):
        for many, _, reports in possible_cases():
            shorter = set(plain_comparisons(many, reports)[0])
            for middle, one, other in itertools.product(range(many), repeat=3):
                if (one, middle) in shorter and (middle, other) in shorter:
                    shorter.add((one, other))
            for one, other in itertools.permutations(range(many), 2):
                self.assert_same(
                    surely_shorter(many, reports, one, other), (one, other) in shorter
                )

    def test_many_people_with_any_reports(self):
        contradictions = 0
        for many, reports in any_cases():
            found = cycle(many, reports)
            if found is None:
                self.assertTrue(are_exchanges(heights_for(many, reports), reports))
            else:
                contradictions += 1
                self.assert_returns(found, cycle, many=many, reports=reports)
                self.assert_contradiction(heights_for, many, reports)
                self.assert_contradiction(surely_shorter, many, reports, one=0, other=many - 1)
        self.assertGreater(contradictions, 20)

    def test_twelve_people_with_sixty_reports(self):
        lengths = [len(reports) for many, _, reports in possible_cases() if many == 12]
        self.assertIn(60, lengths)
        self.assertIn((12, 60), [(many, len(reports)) for many, reports in any_cases()])

    def test_contradiction_is_a_value_error(self):
        with self.assertRaises(ValueError) as caught:
            heights_for(4, ((0, 2), (1, 3)))
        self.assert_same(caught.exception.cycle, cycle(4, [(0, 2), (1, 3)]))

    def test_the_cycle_of_an_error_belongs_to_the_caller(self):
        wanted = cycle(4, [(0, 2), (1, 3)])
        for function, more in ((heights_for, ()), (surely_shorter, (0, 1))):
            with self.assertRaises(errors.Contradiction) as caught:
                function(4, [(0, 2), (1, 3)], *more)
            caught.exception.cycle.append(9)
            self.assert_same(cycle(4, [(0, 2), (1, 3)]), wanted)
            self.assert_raises(
                errors.Contradiction, {"cycle": wanted},
                heights_for, many=4, reports=[(0, 2), (1, 3)],
            )


class ShowsCycle(Cases):
    def assert_judged(self, many, reports, thing, wanted):
        self.assert_returns(wanted, shows_cycle, many=many, reports=reports, thing=thing)

    def test_all_short_lists(self):
        for many, reports in small_cases():
            if many < 5 and len(reports) < 4:
                pairs, _ = plain_comparisons(many, reports)
                for length in range(5 if len(reports) < 3 else 4):
                    for people in itertools.product(range(-1, many + 1), repeat=length):
                        thing = list(people)
                        wanted = is_plain_cycle(pairs, thing)
                        self.assert_same(shows_cycle(many, reports, thing), wanted)
                        self.assert_same(shows_cycle(many, reports, people), False)

    def test_long_cycles(self):
        for length in range(2, 6):
            shown = 0
            for many, reports in any_cases():
                pairs, _ = plain_comparisons(many, reports)
                for people in itertools.islice(itertools.permutations(range(many), length), 30):
                    thing = list(people)
                    wanted = is_plain_cycle(pairs, thing)
                    self.assert_same(shows_cycle(many, reports, thing), wanted)
                    if wanted:
                        shown += 1
                        self.assert_same(shows_cycle(many, reports, thing[1:] + thing[:1]), True)
                        self.assert_same(shows_cycle(many, reports, thing + thing), False)
                        self.assert_same(shows_cycle(many, reports, thing + thing[:1]), False)
                        self.assert_same(shows_cycle(many, reports, tuple(thing)), False)
            self.assertGreater(shown, 0)

    def test_what_cycle_returns(self):
        for many, reports in (*middle_cases(), *any_cases()):
            found = cycle(many, reports)
            self.assert_judged(many, reports, found, found is not None)

    def test_bools_for_people(self):
        # As numbers, True and False would be the people of a cycle.
        reports = [(0, 2), (1, 3)]
        for thing in ([0, 1], [1, 0]):
            self.assert_judged(4, reports, thing, True)
        for thing in ([0, True], [False, 1], [False, True], [True, 0], [0, 1, True], [1, True]):
            self.assert_judged(4, reports, thing, False)

    def test_one_wrong_item_anywhere_is_enough(self):
        reports = [(0, 2), (1, 3)]
        for wrong in (*ODD_ITEMS, 4, HUGE):
            for thing in ([wrong, 1], [0, wrong], [0, 1, wrong], [wrong, 0, 1], [0, wrong, 1]):
                self.assert_judged(4, reports, thing, False)

    def test_fewer_than_two_people(self):
        for person in range(4):
            self.assert_judged(4, [(0, 2), (1, 3)], [person], False)
        self.assert_judged(4, [(0, 2), (1, 3)], [], False)
        self.assert_judged(0, [], [], False)

    def test_values_of_every_kind(self):
        for many, reports in ((0, []), (3, [(0, 2)]), (4, [(0, 2), (1, 3)])):
            pairs, _ = plain_comparisons(many, reports)
            for thing in odd_values():
                self.assert_judged(many, reports, thing, is_plain_cycle(pairs, thing))

    def test_judged_whatever_the_bounds(self):
        self.assert_judged(4, [(0, 2), (1, 3)], list(range(3000)), False)
        self.assert_judged(4, [(0, 2), (1, 3)], [0, 1] * 1500, False)


if __name__ == "__main__":
    unittest.main()
