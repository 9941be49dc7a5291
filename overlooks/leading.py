"""Which row leads to which, and what is in the way."""

from overlooks.codes import codes
from overlooks.errors import Barred, Blocked, OtherPeople
from overlooks.rows import is_number
from overlooks.runs import runs
from overlooks.sights import run


def check_same_people(one, other):
    """Raise OtherPeople if the two rows do not consist of the same people."""
    if sorted(one) != sorted(other):
        raise OtherPeople()


def check_leads(one, other):
    """Raise OtherPeople or Barred if the row one does not lead to the row other."""
    barred = bar(one, other)
    if barred is not None:
        raise Barred(barred)


def leads(one, other):
    """Whether the row one leads to the row other."""
    return bar(one, other) is None


def bar(one, other):
    """The height of the shortest person whose run is different; None if there is none."""
    check_same_people(one, other)
    for height, here, there in zip(sorted(one), runs(one), runs(other)):
        if here != there:
            return height
    return None


def differences(one, other):
    """The ascending list of (height, code in one, code in other) where the codes differ."""
    check_same_people(one, other)
    return [
        (height, here, there)
        for height, here, there in zip(sorted(one), codes(one), codes(other))
        if here != there
    ]


def steps(one, other):
    """The sum of the differences of the codes, without signs."""
    check_leads(one, other)
    return sum([abs(here - there) for height, here, there in differences(one, other)])


def shows_exchanges(one, other, thing):
    """Whether thing is a list of exchanges that turns the row one into the row other."""
    check_same_people(one, other)
    if not isinstance(thing, list) or not all([is_pair(pair) for pair in thing]):
        return False
    try:
        return run(one, thing) == tuple(other)
    except Blocked:
        return False


def is_pair(value):
    """Whether value is a tuple of two numbers."""
    if not isinstance(value, tuple) or len(value) != 2:
        return False
    return all([is_number(item) for item in value])
