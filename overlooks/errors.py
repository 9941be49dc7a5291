"""The errors of the package, each under its built-in class.

No error writes its value into a text when it is created: a place or a height
may be any number, and Python refuses to write very long numbers.
"""


class OtherPeople(ValueError):
    """Rows that should consist of the same people do not."""

    # Without this method the class would take any values.
    def __init__(self):
        pass


class BadText(ValueError):
    """No value has this text."""

    def __init__(self, text):
        self.text = text


class BadLine(ValueError):
    """The line with this number is not written as it must be."""

    def __init__(self, number):
        self.number = number


class Known(ValueError):
    """There is a person of this height already."""

    def __init__(self, height):
        self.height = height


class Contradiction(ValueError):
    """No heights are possible, as this cycle shows."""

    def __init__(self, cycle):
        # A cycle is a list, also if a tuple stands for it, and later changes
        # of the argument must have no effect.
        self.cycle = list(cycle) if isinstance(cycle, (list, tuple)) else cycle


class Gap(ValueError):
    """The row with this index does not lead to the next one."""

    def __init__(self, index):
        self.index = index


class NoPerson(LookupError):
    """There is no person of this height."""

    def __init__(self, height):
        self.height = height


class NoPlace(LookupError):
    """There is no such place."""

    def __init__(self, place):
        self.place = place


class NoNumber(LookupError):
    """Nothing has this number."""

    def __init__(self, number):
        self.number = number


class NoOperation(LookupError):
    """There are not so many operations."""

    def __init__(self, many):
        self.many = many


class Blocked(RuntimeError):
    """The people at this pair of places may not change places."""

    def __init__(self, pair):
        # A pair is a tuple, also if a list stands for it.
        self.pair = tuple(pair) if isinstance(pair, list) else pair


class Barred(RuntimeError):
    """One row does not lead to the other one because of this person."""

    def __init__(self, height):
        self.height = height


class TooMany(OverflowError):
    """There are this many rows, more than the limit."""

    def __init__(self, many):
        self.many = many


class Full(OverflowError):
    """There are this many people already, as many as a line holds."""

    def __init__(self, many):
        self.many = many
