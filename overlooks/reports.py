"""What reported exchanges reveal about unknown heights.

People are named by their places at first. A comparison (a, b) says that the
person a is shorter than the person b.
"""

from overlooks.errors import Contradiction
from overlooks.rows import is_number, is_row


def orders(many, reports):
    """The tuples of the people in their order, at first and after each report."""
    people = list(range(many))
    found = [tuple(people)]
    for left, right in reports:
        people[left], people[right] = people[right], people[left]
        found.append(tuple(people))
    return found


def comparisons(many, reports):
    """The ascending list of all comparisons."""
    found = []
    for people, (left, right) in zip(orders(many, reports), reports):
        for person in people[left + 1:right]:
            found.append((person, people[left]))
            found.append((person, people[right]))
    return sorted(set(found))


def end_of(many, reports):
    """The tuple of the people in their order after all reports."""
    return orders(many, reports)[-1]


def fit(many, reports, thing):
    """Whether thing is a tuple of heights of the people with which all reports are exchanges."""
    # Heights are different numbers from 1, as in a row.
    if not is_row(thing) or len(thing) != many:
        return False
    return all([thing[one] < thing[other] for one, other in comparisons(many, reports)])


def heights_for(many, reports):
    """The first tuple of the numbers 1 to many that fits."""
    check_possible(many, reports)
    taller_than = taller_people(many, reports)
    heights = [0] * many
    # The greatest heights are given first, each to the last of those who may
    # have it: this leaves the least heights to the first people. Giving the
    # least heights first would not always lead to the first tuple.
    for height in range(many, 0, -1):
        person = max([
            one for one in range(many)
            if heights[one] == 0 and all([heights[other] > 0 for other in taller_than[one]])
        ])
        heights[person] = height
    return tuple(heights)


def cycle(many, reports):
    """A cycle of comparisons, or None if heights are possible."""
    taller_than = taller_people(many, reports)
    people = people_in_doubt(taller_than)
    if not people:
        return None
    path = []
    person = people[0]
    # Each of these people has a taller one among them: the path comes back.
    while person not in path:
        path.append(person)
        person = min([other for other in taller_than[person] if other in people])
    return path[path.index(person):]


def shows_cycle(many, reports, thing):
    """Whether thing is a cycle of comparisons."""
    if not isinstance(thing, list) or not all([is_number(one) for one in thing]):
        return False
    if len(thing) < 2 or len(set(thing)) != len(thing):
        return False
    found = comparisons(many, reports)
    return all([pair in found for pair in zip(thing, thing[1:] + thing[:1])])


def surely_shorter(many, reports, one, other):
    """Whether one is shorter than other in all heights that fit."""
    check_possible(many, reports)
    taller_than = taller_people(many, reports)
    taller = []
    waiting = [one]
    while waiting:
        person = waiting.pop()
        found = [next_one for next_one in taller_than[person] if next_one not in taller]
        taller.extend(found)
        waiting.extend(found)
    return other in taller


def check_possible(many, reports):
    """Raise Contradiction if no heights fit."""
    found = cycle(many, reports)
    if found is not None:
        raise Contradiction(found)


def taller_people(many, reports):
    """For each person, the ascending list of those who are taller by a comparison."""
    taller_than = [[] for person in range(many)]
    for one, other in comparisons(many, reports):
        taller_than[one].append(other)
    return taller_than


def people_in_doubt(taller_than):
    """The people from whom comparisons lead on without end, ascending; none without a cycle."""
    people = list(range(len(taller_than)))
    # Each round leaves somebody out, or no later one does: so many are enough.
    for turn in range(len(taller_than)):
        people = [one for one in people if any([other in people for other in taller_than[one]])]
    return people
