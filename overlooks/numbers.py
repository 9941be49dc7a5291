"""Numbers of the rows that a row leads to, in ascending order of their codes.

These rows are all choices of one code from the run of each person. So a number
is written in digits, one for each person: the index of the code in the run.
"""

from overlooks.codes import codes, row_with
from overlooks.errors import NoNumber, TooMany
from overlooks.leading import check_leads
from overlooks.most import MOST
from overlooks.runs import run_size, runs


def count_rows(row):
    """How many rows the row leads to."""
    total = 1
    for interval in runs(row):
        total *= run_size(interval)
    return total


def row_at(row, number):
    """The row with that number."""
    if number < 0 or number >= count_rows(row):
        raise NoNumber(number)
    chosen = []
    left = number
    # The last digit is that of the tallest person.
    for interval in reversed(runs(row)):
        left, digit = divmod(left, run_size(interval))
        chosen.append(interval[0] + digit)
    return row_with(row, chosen[::-1])


def number_of(row, other):
    """The number of the row other among those that the row leads to."""
    check_leads(row, other)
    number = 0
    for interval, code in zip(runs(row), codes(other)):
        number = number * run_size(interval) + code - interval[0]
    return number


def all_rows(row):
    """The list of all rows that the row leads to, in the order of their numbers."""
    many = count_rows(row)
    if many > MOST:
        raise TooMany(many)
    return [row_at(row, number) for number in range(many)]
