"""The fewest exchanges between rows, by a search through all rows of a small lot."""

from overlooks.errors import TooMany
from overlooks.leading import check_leads
from overlooks.most import MOST_SEARCHED
from overlooks.numbers import count_rows
from overlooks.sights import exchanged, exchanges


def check_small(row):
    """Raise TooMany if the lot of the row has too many rows for a search."""
    many = count_rows(row)
    if many > MOST_SEARCHED:
        raise TooMany(many)


def distances_from(row):
    """The fewest exchanges that lead from the row to each row of its lot."""
    found = {tuple(row): 0}
    latest = [tuple(row)]
    while latest:
        after = []
        for reached in latest:
            for pair in exchanges(reached):
                next_row = exchanged(reached, pair)
                if next_row not in found:
                    found[next_row] = found[reached] + 1
                    after.append(next_row)
        latest = after
    return found


def distance(one, other):
    """The fewest exchanges that turn the row one into the row other."""
    check_leads(one, other)
    check_small(one)
    return distances_from(one)[tuple(other)]


def plan(one, other):
    """The first of the shortest lists of exchanges that turn the row one into the row other."""
    check_leads(one, other)
    check_small(one)
    # The same exchange leads back, so this is also how far each row is from other.
    left = distances_from(other)
    pairs = []
    reached = tuple(one)
    while left[reached] > 0:
        chosen = first_nearer(reached, left)
        pairs.append(chosen)
        reached = exchanged(reached, chosen)
    return pairs


def first_nearer(row, left):
    """The first exchange of the row that leaves fewer exchanges to go."""
    return min([pair for pair in exchanges(row) if left[exchanged(row, pair)] < left[row]])


def farthest(row):
    """The greatest distance of the row from a row of its lot."""
    check_small(row)
    return max(distances_from(row).values())
