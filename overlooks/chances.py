"""Chances of orders and places, each row that a row leads to being equally likely.

These rows are all choices of one code from the run of each person. A row is
made by letting the people come in from the tallest to the shortest, each to
the index that is their code, so it is enough to count the choices for each
index of one person.
"""

from overlooks.rows import check_person
from overlooks.runs import run_size, runs


def chance_before(row, one, other):
    """The chance that the person one is before the person other."""
    check_person(row, one)
    check_person(row, other)
    shorter, taller = sorted([one, other])
    span_of = spans(row)
    counts = index_counts(span_of, taller, shorter)
    span = span_of[shorter]
    # The shorter one comes to their code and moves everybody from there on back.
    before = sum([count * codes_up_to(span, index) for index, count in enumerate(counts)])
    total = sum(counts) * run_size(span)
    return fraction(before if one == shorter else total - before, total)


def chances_of(row, height):
    """The list of the chances that the person is at the places 0, 1, .."""
    counts = place_counts(row, height)
    total = sum(counts)
    return [fraction(count, total) for count in counts]


def places_of(row, height):
    """The ascending list of the places that the person has."""
    return [place for place, count in enumerate(place_counts(row, height)) if count > 0]


def expected_place(row, height):
    """The average place of the person."""
    counts = place_counts(row, height)
    return fraction(sum([place * count for place, count in enumerate(counts)]), sum(counts))


def place_counts(row, height):
    """For each place, how many rows have the person there."""
    check_person(row, height)
    return index_counts(spans(row), height, 0)


def spans(row):
    """The run of each person, by their height."""
    return dict(zip(sorted(row), runs(row)))


def index_counts(span_of, height, limit):
    """For each index among the people taller than limit, how many choices put the person there.

    The choices are those of the codes from this person down to the limit.
    """
    first, last = span_of[height]
    many = len([other for other in span_of if other >= height])
    counts = [1 if first <= index <= last else 0 for index in range(many)]
    for other in sorted(span_of, reverse=True):
        if limit < other < height:
            counts = counts_after(counts, span_of[other])
    return counts


def counts_after(counts, span):
    """The counts for each index when one more person has come to all indices of their run."""
    grown = [0] * (len(counts) + 1)
    for index, count in enumerate(counts):
        before = codes_up_to(span, index)
        grown[index] += count * (run_size(span) - before)
        grown[index + 1] += count * before
    return grown


def codes_up_to(span, index):
    """How many indices of the run are not above that index."""
    first, last = span
    return max(0, min(index, last) - first + 1)


def fraction(numerator, denominator):
    """The pair of both in lowest terms."""
    common, rest = denominator, numerator
    while rest > 0:
        common, rest = rest, common % rest
    return (numerator // common, denominator // common)
