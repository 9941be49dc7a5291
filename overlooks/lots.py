"""Lots of all rows of the people 1 to many, and their signatures.

How many runs the next taller person has follows from how many runs there are
and from the index of the chosen one. So signatures are numbered without a look
at the runs themselves.
"""

from overlooks.codes import codes, row_with
from overlooks.errors import NoNumber
from overlooks.rows import is_number
from overlooks.runs import first_intervals, next_intervals, run_index, run_lists, run_size


def count_lots(many):
    """How many lots all rows of so many people form."""
    fewer, total = 1, 1
    for people in range(2, many + 1):
        fewer, total = total, 2 * total + (people - 2) * fewer
    return total


def lot_sizes(many):
    """The ascending list of pairs (size, lots)."""
    # Each key is the runs of the next person and how many rows there are so far.
    lots = {(tuple(first_intervals(many)), 1): 1}
    for person in range(many):
        lots = lots_after(lots)
    # All people are out now, so each size is there once.
    return sorted([(size, count) for (intervals, size), count in lots.items()])


def lots_after(lots):
    """The numbers of lots by runs and size, when one more person has chosen each of their runs."""
    found = {}
    for (intervals, size), count in lots.items():
        for interval in intervals:
            after = next_intervals(list(intervals), interval[0])
            key = (tuple(after), size * run_size(interval))
            found[key] = found.get(key, 0) + count
    return found


def signature(row):
    """For each person, the shortest first, the index of their run among all of their rest row."""
    return tuple([
        run_index(intervals, code)
        for intervals, code in zip(run_lists(row), codes(row))
    ])


def runs_left(runs_now, index):
    """How many runs the next taller person has, when the run with that index is chosen."""
    # The chosen run and those beside it become one.
    beside = [other for other in (index - 1, index + 1) if 0 <= other < runs_now]
    return runs_now - len(beside)


def lots_from(runs_now, index):
    """How many ways a signature can go on, when the run with that index is chosen."""
    # The runs unite by their number alone, so as many runs of several indices
    # give as many lots as there are for so many people.
    return count_lots(runs_left(runs_now, index))


def is_signature(many, thing):
    """Whether thing is the signature of some row of these people."""
    if not isinstance(thing, tuple) or len(thing) != many:
        return False
    runs_now = many
    for index in thing:
        if not is_number(index) or index < 0 or index >= runs_now:
            return False
        runs_now = runs_left(runs_now, index)
    return True


def lot_row(many, signature):
    """The row with number 0 of the lot with that signature."""
    chosen = []
    intervals = first_intervals(many)
    for index in signature:
        first, last = intervals[index]
        chosen.append(first)
        intervals = next_intervals(intervals, first)
    return row_with(tuple(range(1, many + 1)), chosen)


def signature_at(many, number):
    """The signature with that number."""
    if number < 0 or number >= count_lots(many):
        raise NoNumber(number)
    chosen = []
    left = number
    runs_now = many
    for person in range(many):
        index = 0
        while left >= lots_from(runs_now, index):
            left -= lots_from(runs_now, index)
            index += 1
        chosen.append(index)
        runs_now = runs_left(runs_now, index)
    return tuple(chosen)


def signature_number(many, signature):
    """The number of that signature."""
    number = 0
    runs_now = many
    for index in signature:
        number += sum([lots_from(runs_now, before) for before in range(index)])
        runs_now = runs_left(runs_now, index)
    return number
