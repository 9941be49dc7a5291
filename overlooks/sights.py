"""Who sees whom, and the exchanges over the heads of shorter people."""

from overlooks.errors import Blocked
from overlooks.rows import check_person


def clear_between(row, left, right):
    """Whether everybody between these two places is shorter than both people there."""
    limit = min(row[left], row[right])
    return all([height < limit for height in row[left + 1:right]])


def exchange_places(row, pair):
    """The two places of an exchange; Blocked if the pair is none."""
    left, right = pair
    # Both may be any numbers; below 0 Python would count from the end.
    if left < 0 or left >= right - 1 or right >= len(row) or not clear_between(row, left, right):
        raise Blocked((left, right))
    return left, right


def sees(row, one, other):
    """Whether these two different people see each other."""
    check_person(row, one)
    check_person(row, other)
    left, right = sorted([row.index(one), row.index(other)])
    return clear_between(row, left, right)


def sights(row):
    """The ascending list of the pairs of places of people who see each other."""
    many = len(row)
    return [
        (left, right)
        for left in range(many)
        for right in range(left + 1, many)
        if clear_between(row, left, right)
    ]


def exchanges(row):
    """The ascending list of all exchanges."""
    return [(left, right) for left, right in sights(row) if left < right - 1]


def exchanged(row, pair):
    """The row after an exchange."""
    left, right = exchange_places(row, pair)
    people = list(row)
    people[left], people[right] = people[right], people[left]
    return tuple(people)


def run(row, pairs):
    """The row after a list of exchanges, one after the other."""
    reached = tuple(row)
    for pair in pairs:
        reached = exchanged(reached, pair)
    return reached


def back(pairs):
    """The list that takes these exchanges back."""
    return [tuple(pair) for pair in reversed(pairs)]


def mover(row, pair):
    """The height of the shorter person of an exchange, and the change of their code."""
    left, right = exchange_places(row, pair)
    # Of those whom they pass, only the taller person counts for the code.
    if row[left] < row[right]:
        return (row[left], 1)
    return (row[right], -1)
