"""Codes: each person's index among the people who are at least as tall."""

from overlooks.rows import is_number


def code_of(row, height):
    """The index of that person in their rest row."""
    return [other for other in row if other >= height].index(height)


def codes(row):
    """The codes of all people, that of the shortest person first."""
    return tuple([code_of(row, height) for height in sorted(row)])


def is_codes(row, thing):
    """Whether thing is the codes of some row of the same people."""
    if not isinstance(thing, tuple) or len(thing) != len(row):
        return False
    # The rest row of the shortest person holds all people, each next one fewer.
    many = len(row)
    return all([is_number(code) and 0 <= code < many - at for at, code in enumerate(thing)])


def row_with(row, codes):
    """The row of the same people that has these codes."""
    people = []
    # The tallest come first: a code counts only people who stand there already.
    for height, code in reversed(list(zip(sorted(row), codes))):
        people.insert(code, height)
    return tuple(people)
