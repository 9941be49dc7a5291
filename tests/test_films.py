"""Films, promise [13], with the general rules [2] and [3]."""

import itertools
import random
import unittest

from overlooks import errors
from overlooks.films import film_bar, film_gap, film_steps
from tests.helpers import (
    OTHER_PEOPLE, ROW, Cases, as_heights, large_rows, plain_bar, plain_codes, random_walk,
    small_rows,
)


def wanted_gap(film):
    """The index of the first row whose runs are not those of the next one."""
    for index in range(len(film) - 1):
        if plain_bar(film[index], film[index + 1]) is not None:
            return index
    return None


def wanted_steps(film):
    """The sum of the differences of all codes, from each row to the next one."""
    return sum(
        abs(here - there)
        for one, other in zip(film, film[1:])
        for here, there in zip(plain_codes(one), plain_codes(other))
    )


def walked_film(row, many, seed):
    """A film of so many rows without a gap."""
    chosen = random.Random(seed)
    film = [row]
    while len(film) < many:
        _, row = random_walk(row, chosen.randrange(5), seed=chosen.randrange(1000))
        film.append(row)
    return film


class Examples(Cases):
    def test_gap_and_bar(self):
        film = [ROW, (4, 1, 2, 3, 5), (4, 1, 2, 5, 3)]
        self.assert_same((film_gap(film), film_bar(film)), (1, 3))

    def test_steps(self):
        self.assert_same(film_steps([ROW, (5, 1, 2, 3, 4), (4, 1, 2, 3, 5)]), 2)


class Films(Cases):
    def assert_film(self, film):
        """All functions of the film, whether it has a gap or not."""
        index = wanted_gap(film)
        self.assert_returns(index, film_gap, film=film)
        if index is None:
            self.assert_returns(None, film_bar, film=film)
            self.assert_returns(wanted_steps(film), film_steps, film=film)
        else:
            height = plain_bar(film[index], film[index + 1])
            self.assert_returns(height, film_bar, film=film)
            self.assert_raises(errors.Gap, {"index": index}, film_steps, film=film)

    def test_one_row(self):
        for row in (*small_rows(4), *large_rows()):
            self.assert_returns(None, film_gap, film=[row])
            self.assert_returns(None, film_bar, film=[row])
            self.assert_returns(0, film_steps, film=[row])

    def test_all_films_of_three_people(self):
        rows = list(itertools.permutations((10, 200, 10 ** 9)))
        for many in (1, 2, 3):
            for film in itertools.product(rows, repeat=many):
                self.assert_film(list(film))

    def test_pairs_of_rows_of_four_people(self):
        heights = (7, 30, 10 ** 9 - 1, 10 ** 9)
        rows = [as_heights(row, heights) for row in itertools.permutations(range(1, 5))]
        for film in itertools.product(rows, repeat=2):
            self.assert_film(list(film))

    def test_films_without_a_gap(self):
        for at, row in enumerate(large_rows()):
            film = walked_film(row, at % 30 + 1, seed=at)
            self.assertIsNone(wanted_gap(film))
            self.assert_film(film)

    def test_a_gap_anywhere(self):
        row = (16, 14, 12, 10, 8, 6, 4, 2, 1, 3, 5, 7, 9, 11, 13, 15)
        film = walked_film(row, 15, seed=1) + walked_film(row[::-1], 15, seed=2)
        self.assertEqual(wanted_gap(film), 14)
        for first in range(15):
            for last in range(15, 31):
                self.assertEqual(film_gap(film[first:last]), wanted_gap(film[first:last]))
            self.assert_film(film[first:first + 15])
            self.assert_film(film[first:])

    def test_the_first_of_several_gaps(self):
        back_and_forth = [(1, 2, 3), (1, 3, 2)] * 15
        for first in range(3):
            self.assert_returns(0, film_gap, film=back_and_forth[first:])
            self.assert_returns(2, film_bar, film=back_and_forth[first:])
        film = [(3, 1, 2), (2, 1, 3), (1, 2, 3), (3, 2, 1), (1, 3, 2)]
        self.assert_returns(1, film_gap, film=film)
        self.assert_returns(1, film_bar, film=film)
        self.assert_raises(errors.Gap, {"index": 1}, film_steps, film=film)

    def test_random_films(self):
        chosen = random.Random(12)
        for _ in range(60):
            many = chosen.randrange(2, 6)
            rows = [tuple(chosen.sample(range(1, many + 1), many)) for _ in range(3)]
            film = [chosen.choice(rows) for _ in range(chosen.randrange(1, 31))]
            self.assert_film(film)

    def test_gap_is_a_value_error(self):
        with self.assertRaises(ValueError) as caught:
            film_steps([[1, 2], [1, 2], [2, 1]])
        self.assertEqual(caught.exception.index, 1)


class OtherPeople(Cases):
    def assert_other_people(self, film):
        for function in (film_gap, film_bar, film_steps):
            self.assert_raises(errors.OtherPeople, {}, function, film=film)

    def test_two_rows(self):
        for one, other in OTHER_PEOPLE:
            self.assert_other_people([one, other])
            self.assert_other_people([one, one, other])
            self.assert_other_people([one, other, one])
            self.assert_other_people([one, other, other])

    def test_wherever_the_row_stands(self):
        for others in ((3, 1, 2, 5, 6), (3, 1, 2, 5), (3, 1, 2, 5, 4, 6), (), (7,)):
            for many in (2, 7, 30):
                film = walked_film(ROW, many, seed=many)
                for at in range(many):
                    self.assert_other_people(film[:at] + [others] + film[at + 1:])

    def test_before_a_gap(self):
        film = [(1, 2, 3), (3, 2, 1), (1, 2, 3), (2, 1, 3), (1, 3, 2)]
        self.assertEqual(wanted_gap(film), 0)
        for others in ((1, 2, 4), (1, 2), (1, 2, 3, 4), ()):
            for at in range(1, len(film) + 1):
                self.assert_other_people(film[:at] + [others] + film[at:])

    def test_it_is_a_value_error(self):
        for function in (film_gap, film_bar, film_steps):
            with self.assertRaises(ValueError):
                function(((1, 2), (2, 1), (1, 3)))


if __name__ == "__main__":
    unittest.main()
