"""Runs: the intervals of indices in which the codes of people move."""

from overlooks.codes import codes
from overlooks.rows import check_person


def first_intervals(many):
    """The runs for the shortest of so many people."""
    return [(index, index) for index in range(many)]


def run_size(interval):
    """How many indices the run has."""
    first, last = interval
    return last - first + 1


def run_index(intervals, code):
    """The index of the run that contains the code, in the ascending list of runs."""
    return len([last for first, last in intervals if last < code])


def next_intervals(intervals, code):
    """The runs for the next taller person, when the person with that code is taken out."""
    at = run_index(intervals, code)
    # The runs leave no index out. So the one that grows downwards while those
    # above it go down shares an index with both runs beside it, and no others do.
    left = max(at - 1, 0)
    right = min(at + 1, len(intervals) - 1)
    united = (intervals[left][0], intervals[right][1] - 1)
    above = [(first - 1, last - 1) for first, last in intervals[right + 1:]]
    return intervals[:left] + [united] + above


def run_lists(row):
    """For each person, the shortest first, the ascending list of all runs of their rest row."""
    lists = []
    intervals = first_intervals(len(row))
    for code in codes(row):
        lists.append(intervals)
        intervals = next_intervals(intervals, code)
    return lists


def runs(row):
    """The runs of all people, that of the shortest person first."""
    return tuple([
        intervals[run_index(intervals, code)]
        for intervals, code in zip(run_lists(row), codes(row))
    ])


def run_list(row, height):
    """The ascending list of all runs of that person's rest row."""
    check_person(row, height)
    return run_lists(row)[sorted(row).index(height)]


def free_people(row):
    """The ascending list of the heights of all people whose run has more than one index."""
    return [height for height, (first, last) in zip(sorted(row), runs(row)) if first < last]
