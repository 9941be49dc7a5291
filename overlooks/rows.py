"""Rows: tuples of the heights of people, who are named by them."""

from overlooks.errors import Known, NoPerson, NoPlace


def is_number(value):
    """Whether value is an integer other than True and False."""
    # Python counts True and False among the integers.
    return isinstance(value, int) and not isinstance(value, bool)


def is_row(thing):
    """Whether thing is a tuple of different numbers from 1."""
    if not isinstance(thing, tuple):
        return False
    # This comes before the set because a list cannot be a member of one.
    if not all([is_number(height) and height >= 1 for height in thing]):
        return False
    return len(set(thing)) == len(thing)


def check_person(row, height):
    """Raise NoPerson if there is no person of that height."""
    if height not in row:
        raise NoPerson(height)


def ranks(row):
    """The row in which each height is replaced by its rank, from 1."""
    rank_of = {height: rank for rank, height in enumerate(sorted(row), start=1)}
    return tuple([rank_of[height] for height in row])


def mirrored(row):
    """The row backwards."""
    return tuple(row[::-1])


def with_person(row, place, height):
    """The row with one more person, of that height at that place."""
    if place < 0 or place > len(row):
        raise NoPlace(place)
    if height in row:
        raise Known(height)
    return tuple(row[:place]) + (height,) + tuple(row[place:])


def without(row, height):
    """The row without the person of that height."""
    check_person(row, height)
    return tuple([other for other in row if other != height])
