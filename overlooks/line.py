"""A line of people, which keeps a row over many operations."""

from overlooks.codes import codes
from overlooks.errors import Full, NoOperation
from overlooks.most import MOST_PEOPLE
from overlooks.numbers import count_rows
from overlooks.rows import mirrored, with_person, without
from overlooks.runs import runs
from overlooks.sights import exchanged, exchanges, mover, run


def call_entries(name):
    """What the log has for one call of an operation.

    An operation makes both entries when it begins: nobody can look at the log
    before it ends, and so they are also there if it raises an error.
    """
    return [("in", name), ("out", name)]


class Line:
    """A row, with the operations that led to it."""

    def __init__(self, row=()):
        # The rows at first and after each operation in effect. They are all
        # that undo and as_of need.
        self.states = [tuple(row)]
        self.entries = []

    def exchange(self, pair):
        """Let two people change places; return the shorter one and the change of their code."""
        self.entries.extend(call_entries("exchange"))
        moved = mover(self.row(), pair)
        self.states.append(exchanged(self.row(), pair))
        return moved

    def run(self, pairs):
        """Do a list of exchanges as one operation."""
        self.entries.extend(call_entries("run"))
        self.states.append(run(self.row(), pairs))

    def come(self, height, place):
        """Let a new person come to that place; return how many people there are then."""
        self.entries.extend(call_entries("come"))
        grown = with_person(self.row(), place, height)
        if len(grown) > MOST_PEOPLE:
            raise Full(MOST_PEOPLE)
        self.states.append(grown)
        return len(grown)

    def leave(self, height):
        """Let that person leave; return their place."""
        self.entries.extend(call_entries("leave"))
        rest = without(self.row(), height)
        place = self.row().index(height)
        self.states.append(rest)
        return place

    def turn(self):
        """Turn the row about."""
        self.entries.extend(call_entries("turn"))
        self.states.append(mirrored(self.row()))

    def undo(self):
        """Take back the last operation in effect; return whether there was one."""
        self.entries.extend(call_entries("undo"))
        if self.operations() == 0:
            return False
        self.states.pop()
        return True

    def row(self):
        """The row."""
        return self.states[-1]

    def codes(self):
        """The codes of the row."""
        return codes(self.row())

    def runs(self):
        """The runs of the row."""
        return runs(self.row())

    def count(self):
        """How many rows the row leads to."""
        return count_rows(self.row())

    def exchanges(self):
        """The ascending list of all exchanges of the row."""
        return exchanges(self.row())

    def operations(self):
        """How many operations are in effect."""
        return len(self.states) - 1

    def as_of(self, many):
        """A new line in the state after the first so many operations in effect."""
        if many < 0 or many > self.operations():
            raise NoOperation(many)
        line = Line(self.states[0])
        line.states = self.states[:many + 1]
        return line

    def twin(self):
        """A new line in the same state."""
        return self.as_of(self.operations())

    def log(self):
        """The list of the entries of all calls of operations."""
        return list(self.entries)

    def __eq__(self, other):
        return isinstance(other, Line) and self.row() == other.row()

    def __len__(self):
        return len(self.row())

    def __repr__(self):
        return f"Line({len(self.row())} people, {self.count()} rows)"
