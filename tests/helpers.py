"""What the tests of several modules share."""

import copy
import itertools
import random
import unittest

HUGE = 10 ** 6000

# The row of the document's examples.
ROW = (3, 1, 2, 5, 4)

# Values of all kinds that a parameter called thing may have, none of them a number from 0.
ODD_ITEMS = (
    True, False, None, -1, -HUGE, "", "0", "1", "row",
    (), (0,), (1,), ((1,),), (0, 1), [], [0], [1], [[]], [(2, 3)],
)

# Rows of different people, some of them also of another number of people.
OTHER_PEOPLE = (
    ((), (1,)),
    ((1,), ()),
    ((1, 2), (1, 3)),
    ((1, 2, 3), (1, 2)),
    ((2, 1), (2, 1, 3)),
    (ROW, (3, 1, 2, 5, 6)),
    (ROW, (30, 10, 20, 50, 40)),
    (tuple(range(1, 17)), tuple(range(2, 18))),
)


def small_rows(most=4):
    """Every row of the heights 1, 2, .. of at most so many people."""
    for many in range(most + 1):
        yield from itertools.permutations(range(1, many + 1))


def large_rows():
    """Rows of up to sixteen people, the heights up to 10 ** 9."""
    yield tuple(range(1, 17))
    yield tuple(range(16, 0, -1))
    yield tuple(range(10 ** 9, 10 ** 9 - 16, -1))
    yield (16, 1, 15, 2, 14, 3, 13, 4, 12, 5, 11, 6, 10, 7, 9, 8)
    yield (16, 14, 12, 10, 8, 6, 4, 2, 1, 3, 5, 7, 9, 11, 13, 15)
    yield (2, 1, 4, 3, 6, 5, 8, 7, 10, 9, 12, 11, 14, 13, 16, 15)
    chosen = random.Random(4)
    for many in range(17):
        for _ in range(4):
            yield tuple(chosen.sample(range(1, many + 1), many))
            yield tuple(chosen.sample(range(1, 10 ** 9 + 1), many))


def plain_sights(row):
    """All sights, by a plain look at everybody between."""
    return [
        (i, j)
        for i in range(len(row))
        for j in range(i + 1, len(row))
        if all(row[k] < row[i] and row[k] < row[j] for k in range(i + 1, j))
    ]


def plain_exchanges(row):
    """The sights with somebody between."""
    return [(i, j) for i, j in plain_sights(row) if j - i >= 2]


def plain_exchanged(row, pair):
    """The row in which the people at the two places stand at each other's."""
    i, j = pair
    return row[:i] + (row[j],) + row[i + 1:j] + (row[i],) + row[j + 1:]


def plain_lot(row):
    """The rows that exchanges reach, by a search."""
    seen = {row}
    waiting = [row]
    while waiting:
        reached = waiting.pop()
        for pair in plain_exchanges(reached):
            after = plain_exchanged(reached, pair)
            if after not in seen:
                seen.add(after)
                waiting.append(after)
    return seen


def plain_lots(many):
    """The lots of all rows of the heights 1 to many, each as a set."""
    seen = set()
    for row in itertools.permutations(range(1, many + 1)):
        if row not in seen:
            lot = plain_lot(row)
            seen |= lot
            yield lot


def plain_codes(row):
    """The codes by their definition: an index in the rest row."""
    found = []
    for height in sorted(row):
        rest_row = [other for other in row if other >= height]
        found.append(rest_row.index(height))
    return tuple(found)


def united(sets):
    """The sets of indices, those that share an index united, again and again."""
    for one in sets:
        for other in sets:
            if one is not other and one & other:
                rest = [kept for kept in sets if kept is not one and kept is not other]
                return united(rest + [one | other])
    return sets


def plain_run_lists(row):
    """The runs of all rest rows, made as the document describes it."""
    lists = []
    rest_row = list(row)
    made = [{index} for index in range(len(row))]
    for height in sorted(row):
        lists.append(sorted((min(indices), max(indices)) for indices in made))
        code = rest_row.index(height)
        rest_row.remove(height)
        after = []
        for indices in made:
            if code in indices:
                grown = set(range(min(indices) - 1, max(indices) + 1))
                after.append(grown & set(range(len(rest_row))))
            else:
                after.append({index - 1 if index > code else index for index in indices})
        made = united(after)
    return lists


def plain_runs(row):
    """The run of each person that contains their code, the shortest person first."""
    found = []
    for code, intervals in zip(plain_codes(row), plain_run_lists(row)):
        found += [(first, last) for first, last in intervals if first <= code <= last]
    return tuple(found)


def plain_bar(one, other):
    """The shortest person whose run is different; None if there is none."""
    for height, here, there in zip(sorted(one), plain_runs(one), plain_runs(other)):
        if here != there:
            return height
    return None


def plain_signature(row):
    """The index of each person's run in the list of all runs of their rest row."""
    return tuple(
        intervals.index(interval)
        for intervals, interval in zip(plain_run_lists(row), plain_runs(row))
    )


def as_heights(row, heights):
    """The row with each rank replaced by one of the ascending heights."""
    return tuple(heights[rank - 1] for rank in row)


def random_walk(row, many, seed):
    """As many exchanges, one after the other; fewer if the row has none."""
    chosen = random.Random(seed)
    pairs = []
    for _ in range(many):
        possible = plain_exchanges(row)
        if not possible:
            break
        pairs.append(chosen.choice(possible))
        row = plain_exchanged(row, pairs[-1])
    return pairs, row


class Failed(Exception):
    """What a PlainLine raises: the name of the error, and its value."""


class PlainLine:
    """A plain description of a Line: the rows at first and after each operation in effect."""

    def __init__(self, row=()):
        self.rows = [tuple(row)]
        self.log = []

    @property
    def row(self):
        return self.rows[-1]

    def call(self, name, *values):
        """What the operation returns; Failed if it raises an error."""
        self.log += [("in", name), ("out", name)]
        return getattr(self, name)(*values)

    def exchange(self, pair):
        if pair not in plain_exchanges(self.row):
            raise Failed("Blocked", pair)
        people = [self.row[place] for place in pair]
        self.rows.append(plain_exchanged(self.row, pair))
        return (min(people), 1 if people[0] < people[1] else -1)

    def run(self, pairs):
        row = self.row
        for pair in pairs:
            if pair not in plain_exchanges(row):
                raise Failed("Blocked", pair)
            row = plain_exchanged(row, pair)
        self.rows.append(row)

    def come(self, height, place):
        if not 0 <= place <= len(self.row):
            raise Failed("NoPlace", place)
        if height in self.row:
            raise Failed("Known", height)
        if len(self.row) >= 16:
            raise Failed("Full", 16)
        self.rows.append(self.row[:place] + (height,) + self.row[place:])
        return len(self.row)

    def leave(self, height):
        if height not in self.row:
            raise Failed("NoPerson", height)
        place = self.row.index(height)
        self.rows.append(self.row[:place] + self.row[place + 1:])
        return place

    def turn(self):
        self.rows.append(self.row[::-1])

    def undo(self):
        if len(self.rows) == 1:
            return False
        self.rows.pop()
        return True


def random_operation(chosen, row, huge=HUGE):
    """The name of an operation and its values, often such that it fails."""
    name = chosen.choice(("exchange", "exchange", "run", "come", "come", "leave", "turn", "undo"))
    many = len(row)
    if name == "exchange":
        return name, random_pair(chosen, row, huge)
    if name == "run":
        pairs, _ = random_walk(row, chosen.randrange(6), seed=chosen.randrange(1000))
        if chosen.random() < 0.3:
            pairs.insert(chosen.randrange(len(pairs) + 1), random_pair(chosen, row, huge))
        return name, pairs
    if name == "come":
        height = chosen.choice((*row, *chosen.sample(range(1, 10 ** 9 + 1), many + 3), 1, 2, 3, 4))
        return name, height, chosen.choice((*range(-1, many + 2), huge, -huge, many, 0))
    if name == "leave":
        return name, chosen.choice((*row, 0, -1, 5, 10 ** 9, huge))
    return (name,)


def random_pair(chosen, row, huge):
    """An exchange of the row, or any two numbers."""
    possible = plain_exchanges(row)
    if possible and chosen.random() < 0.7:
        return chosen.choice(possible)
    numbers = (*range(-2, len(row) + 2), huge, -huge)
    return (chosen.choice(numbers), chosen.choice(numbers))


def wrapped_values():
    """Lists and tuples around values of all kinds, up to six levels deep."""
    for inner in (0, 1, True, None, "a", (), [], (0,), (0, 2), [0, 2], [(0, 2)]):
        for depth in range(1, 5):
            for wraps in itertools.product((0, 1, 2), repeat=depth):
                thing = inner
                for wrap in wraps:
                    thing = ((thing,), [thing], (0, thing))[wrap]
                yield thing


def odd_values():
    """Values of all kinds: numbers, True, False, None, strings, lists and tuples."""
    yield from (0, 1, 2, 7, 10 ** 9, HUGE)
    yield from ODD_ITEMS
    yield from wrapped_values()


def as_lists(value):
    if isinstance(value, (list, tuple)):
        return [as_lists(item) for item in value]
    return value


def as_tuples(value):
    if isinstance(value, (list, tuple)):
        return tuple(as_tuples(item) for item in value)
    return value


def spoil(value):
    """Change a returned list, which belongs to the caller."""
    if isinstance(value, list):
        value.reverse()
        value.append("spoilt")


class Cases(unittest.TestCase):
    def assert_same(self, value, wanted):
        """Equal, and of the same kinds: neither a list for a tuple nor True for 1."""
        self.assertIs(type(value), type(wanted))
        if isinstance(wanted, (list, tuple)):
            self.assertEqual(len(value), len(wanted))
            for item, wanted_item in zip(value, wanted):
                self.assert_same(item, wanted_item)
        else:
            self.assertEqual(value, wanted)

    def calls(self, function, arguments):
        """The call by position and by name, as given, with lists, and with tuples.

        Afterwards no argument has changed.
        """
        for change in (copy.deepcopy, as_lists, as_tuples):
            given = {
                name: copy.deepcopy(value) if name == "thing" else change(value)
                for name, value in arguments.items()
            }
            before = copy.deepcopy(given)
            backwards = dict(reversed(given.items()))
            yield lambda: function(*given.values())
            yield lambda: function(**backwards)
            for name in given:
                self.assert_same(given[name], before[name])

    def assert_returns(self, wanted, function, **arguments):
        """However it is called, whatever is done to what an earlier call returned."""
        for call in self.calls(function, arguments):
            value = call()
            self.assert_same(value, wanted)
            spoil(value)
            self.assert_same(call(), wanted)

    def assert_raises(self, made, attributes, function, **arguments):
        """However it is called; the error has exactly these attributes."""
        for call in self.calls(function, arguments):
            with self.assertRaises(made) as caught:
                call()
            self.assertIs(type(caught.exception), made)
            stored = vars(caught.exception)
            self.assertEqual(list(stored), list(attributes))
            for name, value in attributes.items():
                self.assert_same(stored[name], value)
