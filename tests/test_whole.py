"""The whole program at its bounds, promises [1] to [3]."""

import copy
import random
import time
import unittest

from overlooks.chances import chance_before, chances_of, expected_place, places_of
from overlooks.codes import codes, is_codes, row_with
from overlooks.errors import Contradiction, TooMany
from overlooks.films import film_bar, film_gap, film_steps
from overlooks.leading import bar, differences, leads, shows_exchanges, steps
from overlooks.line import Line
from overlooks.lots import (
    count_lots, is_signature, lot_row, lot_sizes, signature, signature_at, signature_number,
)
from overlooks.numbers import all_rows, count_rows, number_of, row_at
from overlooks.reports import comparisons, cycle, end_of, fit, heights_for, shows_cycle
from overlooks.rows import is_row, mirrored, ranks, with_person, without
from overlooks.runs import free_people, run_list, runs
from overlooks.sheet import answers
from overlooks.sights import back, exchanged, exchanges, mover, run, sees, sights
from overlooks.small import distance, farthest, plan
from overlooks.texts import pairs_in, pairs_text, row_in, row_text
from tests.helpers import ROW, Cases, large_rows, random_walk, spoil

SECONDS = 5
TALL = tuple(10 ** 9 - 10 * rank for rank in (0, 2, 4, 6, 8, 10, 12, 14, 15, 13, 11, 9, 7, 5, 3, 1))


def some_calls():
    """Functions and arguments of all modules, some of them lists."""
    film = [ROW, [5, 1, 2, 3, 4], (4, 1, 2, 3, 5)]
    reports = [(0, 2), [0, 3]]
    yield from (
        (is_row, ROW), (ranks, [70, 10, 30]), (mirrored, [70, 10]), (with_person, [70, 10], 1, 40),
        (without, [70, 10, 30], 10), (sees, ROW, 3, 5), (sights, list(ROW)), (exchanges, list(ROW)),
        (exchanged, list(ROW), [0, 3]), (run, ROW, [[0, 3], (0, 4)]), (back, [[0, 3], (0, 4)]),
        (mover, ROW, [0, 2]), (codes, list(ROW)), (is_codes, ROW, (1, 1, 0, 1, 0)),
        (row_with, ROW, [4, 3, 2, 1, 0]), (runs, list(ROW)), (run_list, list(ROW), 2),
        (free_people, list(ROW)), (leads, ROW, list(ROW)), (bar, ROW, list(ROW[::-1])),
        (differences, ROW, [4, 1, 2, 3, 5]), (steps, ROW, [4, 1, 2, 3, 5]),
        (shows_exchanges, ROW, ROW, []), (count_rows, list(ROW)), (row_at, list(ROW), 3),
        (number_of, ROW, list(ROW)), (all_rows, list(ROW)), (distance, ROW, [4, 1, 2, 3, 5]),
        (plan, list(ROW), [4, 1, 2, 3, 5]), (farthest, list(ROW)), (count_lots, 9), (lot_sizes, 5),
        (signature, list(ROW)), (is_signature, 5, (1, 0, 0, 0, 0)), (lot_row, 5, [1, 0, 0, 0, 0]),
        (signature_at, 7, 300), (signature_number, 5, [1, 0, 0, 0, 0]),
        (chance_before, list(ROW), 3, 1), (chances_of, list(ROW), 3), (places_of, list(ROW), 3),
        (expected_place, list(ROW), 3), (film_gap, film), (film_bar, film), (film_steps, film),
        (comparisons, 4, reports), (end_of, 4, reports), (fit, 4, reports, (5, 1, 9, 7)),
        (heights_for, 4, reports), (cycle, 4, [[0, 2], (1, 3)]),
        (shows_cycle, 4, [[0, 2], (1, 3)], [0, 1]), (row_text, list(ROW)), (pairs_text, reports),
        (row_in, "3 1 2"), (pairs_in, "0-2 0-3"), (answers, "line 3 1 2\nexchanges\nshow"),
    )


class SameCallSameResult(Cases):
    def test_whatever_other_calls_came_before(self):
        calls = list(some_calls())
        wanted = [copy.deepcopy(function(*given)) for function, *given in calls]
        before = copy.deepcopy([given for _, *given in calls])
        for seed in range(10):
            order = list(range(len(calls)))
            random.Random(seed).shuffle(order)
            for at in order:
                function, *given = calls[at]
                result = function(*given)
                self.assert_same(result, wanted[at])
                spoil(result)
        self.assert_same([given for _, *given in calls], before)


class ShortTime(Cases):
    def setUp(self):
        self.start = time.perf_counter()

    def tearDown(self):
        self.assertLess(time.perf_counter() - self.start, SECONDS)

    def test_sixteen_people(self):
        self.assertEqual(count_rows(TALL), 40320 * 40320)
        number = number_of(TALL, TALL)
        self.assertEqual(row_at(TALL, number), TALL)
        self.assertEqual(row_with(TALL, codes(TALL)), TALL)
        self.assertEqual(sum(1 for _ in sights(TALL)), 15 + len(exchanges(TALL)))
        for height in TALL:
            self.assertEqual(len(chances_of(TALL, height)), 16)
            self.assertTrue(places_of(TALL, height))
            expected_place(TALL, height)
            for other in TALL:
                if other != height:
                    chance_before(TALL, height, other)
        given = signature(ranks(TALL))
        self.assertEqual(signature_at(16, signature_number(16, given)), given)
        self.assertEqual(signature(lot_row(16, given)), given)
        with self.assertRaises(TooMany):
            all_rows(TALL)
        with self.assertRaises(TooMany):
            farthest(TALL)

    def test_a_thousand_exchanges(self):
        pairs, reached = random_walk(TALL, 1000, seed=11)
        self.assertEqual(run(TALL, pairs), reached)
        self.assertEqual(run(reached, back(pairs)), TALL)
        self.assertIs(shows_exchanges(TALL, reached, pairs), True)
        self.assertEqual(pairs_in(pairs_text(pairs)), pairs)
        self.assertLessEqual(steps(TALL, reached), 1000)
        line = Line(TALL)
        line.run(pairs)
        self.assertEqual(line.row(), reached)

    def test_films_of_thirty_rows(self):
        film = [TALL]
        for seed in range(29):
            film.append(random_walk(film[-1], 40, seed)[1])
        self.assertIsNone(film_gap(film))
        self.assertIsNone(film_bar(film))
        self.assertLessEqual(film_steps(film), 29 * 40)
        film[-1] = film[-1][::-1]
        self.assertEqual(film_gap(film), 28)

    def test_twelve_people_and_sixty_reports(self):
        heights = (12, 10, 8, 6, 4, 2, 1, 3, 5, 7, 9, 11)
        reports, reached = random_walk(heights, 60, seed=12)
        self.assertEqual(len(reports), 60)
        self.assertIs(fit(12, reports, heights), True)
        found = heights_for(12, reports)
        self.assertIs(fit(12, reports, found), True)
        self.assertLessEqual(found, heights)
        self.assertIsNone(cycle(12, reports))
        self.assertEqual(tuple(heights[one] for one in end_of(12, reports)), reached)
        reports = [(left, left + 2) for left in range(10)] * 6
        with self.assertRaises(Contradiction) as caught:
            heights_for(12, reports)
        self.assertIs(shows_cycle(12, reports, caught.exception.cycle), True)

    def test_a_line_with_sixteen_people_and_sixty_operations(self):
        line = Line(TALL)
        while line.operations() < 60:
            line.run(random_walk(line.row(), 15, seed=line.operations())[0])
        self.assertEqual(line.count(), 40320 * 40320)
        for many in range(61):
            self.assertEqual(line.as_of(many).operations(), many)
        while line.undo():
            self.assertTrue(line.runs())
        self.assertEqual(line.row(), TALL)

    def test_a_sheet_of_sixty_lines(self):
        orders = ["exchanges", "rows", "codes", "show", "turn", "lead " + row_text(TALL)] * 10
        found = answers("\n".join(["line " + row_text(TALL), *orders[:59]]))
        self.assertEqual(len(found), 59)
        self.assertEqual(found[1], "1625702400")

    def test_lots(self):
        self.assertEqual(len(lot_sizes(8)), 23)
        self.assertEqual(count_lots(16), 266906858)
        for number in range(0, count_lots(16), 10 ** 6):
            self.assertEqual(signature_number(16, signature_at(16, number)), number)


class ReturnedValues(Cases):
    """Values that were returned may be passed in again, whatever their size."""

    def test_all_rows_make_a_film(self):
        film = all_rows((4, 3, 1, 5, 2, 6, 7, 8))
        self.assertEqual(len(film), 288)
        self.assertIsNone(film_gap(film))
        self.assertGreaterEqual(film_steps(film), len(film) - 1)

    def test_plans_and_walks(self):
        for row in large_rows():
            if count_rows(row) <= 300:
                for reached in all_rows(row)[::7]:
                    self.assertIs(shows_exchanges(row, reached, plan(row, reached)), True)

    def test_texts_of_a_line(self):
        for row in large_rows():
            line = Line(row_in(row_text(row)))
            self.assertEqual(line.row(), row)
            self.assertEqual(pairs_in(pairs_text(line.exchanges())), line.exchanges())


if __name__ == "__main__":
    unittest.main()
