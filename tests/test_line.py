"""A Line, promises [15] and [16], guarantee (g), with the general rules [2] and [3]."""

import copy
import math
import random
import unittest

from overlooks import errors
from overlooks.line import Line
from overlooks.numbers import count_rows
from tests.helpers import (
    HUGE, ROW, Cases, Failed, PlainLine, as_lists, as_tuples, plain_codes, plain_exchanges,
    plain_runs, random_operation, random_walk, spoil,
)

ATTRIBUTES = {
    "Blocked": "pair", "NoPlace": "place", "Known": "height", "Full": "many", "NoPerson": "height",
}
PARAMETERS = {
    "exchange": ("pair",), "run": ("pairs",), "come": ("height", "place"), "leave": ("height",),
    "turn": (), "undo": (),
}
SIXTEEN = (16, 14, 12, 10, 8, 6, 4, 2, 1, 3, 5, 7, 9, 11, 13, 15)


class LineCases(Cases):
    def assert_state(self, line, wanted):
        """All queries of the line against the plain one."""
        row = wanted.row
        many = math.prod(last - first + 1 for first, last in plain_runs(row))
        self.assert_same(line.row(), row)
        self.assert_same(line.codes(), plain_codes(row))
        self.assert_same(line.runs(), plain_runs(row))
        self.assert_same(line.count(), many)
        self.assert_same(line.exchanges(), plain_exchanges(row))
        self.assert_same(line.operations(), len(wanted.rows) - 1)
        self.assert_same(line.log(), wanted.log)
        self.assert_same(len(line), len(row))
        self.assert_same(repr(line), f"Line({len(row)} people, {many} rows)")

    def assert_call(self, line, wanted, name, *values, by_name=False):
        """One operation of both: what it returns, or which error it raises with which value."""
        given = copy.deepcopy(values)

        def call():
            if by_name:
                return getattr(line, name)(**dict(zip(PARAMETERS[name], given)))
            return getattr(line, name)(*given)

        try:
            result = wanted.call(name, *as_kinds(name, values))
        except Failed as failed:
            error, value = failed.args
            with self.assertRaises(getattr(errors, error)) as caught:
                call()
            self.assertIs(type(caught.exception), getattr(errors, error))
            stored = vars(caught.exception)
            self.assertEqual(list(stored), [ATTRIBUTES[error]])
            self.assert_same(stored[ATTRIBUTES[error]], value)
        else:
            self.assert_same(call(), result)
        self.assert_same(given, values)


def as_kinds(name, values):
    """The values with a tuple for each pair, as the plain line takes them."""
    if name == "exchange":
        return (tuple(values[0]),)
    if name == "run":
        return ([tuple(pair) for pair in values[0]],)
    return values


class Examples(Cases):
    def test_the_example(self):
        s = Line((3, 1, 2))
        self.assert_same((s.exchange((0, 2)), s.row()), ((2, -1), (2, 1, 3)))
        self.assert_same((s.come(4, 3), s.count(), repr(s)), (4, 4, "Line(4 people, 4 rows)"))
        with self.assertRaises(errors.Blocked) as caught:
            s.exchange((0, 1))
        self.assert_same(caught.exception.pair, (0, 1))
        self.assert_same(
            (s.leave(2), s.row(), s.undo(), s.as_of(1).row(), s.operations()),
            (0, (1, 3, 4), True, (2, 1, 3), 2),
        )
        self.assertEqual(
            [name for side, name in s.log() if side == "in"],
            ["exchange", "come", "exchange", "leave", "undo"],
        )

    def test_repr(self):
        self.assertEqual(repr(Line(ROW)), "Line(5 people, 8 rows)")
        self.assertEqual(repr(Line((7,))), "Line(1 people, 1 rows)")
        self.assertEqual(repr(Line()), "Line(0 people, 1 rows)")
        self.assertEqual(repr(Line(SIXTEEN)), "Line(16 people, 1625702400 rows)")


class Creation(LineCases):
    def test_without_a_row(self):
        self.assert_state(Line(), PlainLine())
        self.assert_state(Line(row=()), PlainLine())
        self.assert_state(Line([]), PlainLine())

    def test_with_a_list_or_a_tuple(self):
        for row in ((7,), ROW, (10 ** 9, 5, 70), SIXTEEN):
            for line in (Line(row), Line(row=row), Line(list(row)), Line(row=list(row))):
                self.assert_state(line, PlainLine(row))

    def test_later_changes_have_no_effect(self):
        row = [3, 1, 2, 5, 4]
        line = Line(row)
        row.append(6)
        row[0] = 9
        self.assert_state(line, PlainLine(ROW))
        self.assertEqual(row, [9, 1, 2, 5, 4, 6])

    def test_lines_do_not_share_anything(self):
        one, other = Line(), Line()
        one.come(5, 0)
        self.assert_state(other, PlainLine())
        self.assertEqual(one.row(), (5,))


class Operations(LineCases):
    def walk(self, seed, many, start=()):
        """A line and a plain one after random operations, each checked."""
        chosen = random.Random(seed)
        line, wanted = Line(start), PlainLine(start)
        for _ in range(many):
            name, *values = random_operation(chosen, wanted.row)
            change = chosen.choice((copy.deepcopy, as_lists, as_tuples))
            values = [change(value) for value in values]
            self.assert_call(line, wanted, name, *values, by_name=chosen.random() < 0.5)
            self.assert_state(line, wanted)
            if len(wanted.rows) > 60:
                break
        return line, wanted

    def test_random_operations(self):
        for seed in range(25):
            chosen = random.Random(seed)
            start = tuple(chosen.sample(range(1, 25), chosen.randrange(13)))
            self.walk(seed, 40, start)

    def test_undo_back_to_the_start_and_one_time_more(self):
        for seed in range(8):
            line, wanted = self.walk(seed, 30, ROW)
            while len(wanted.rows) > 1:
                self.assert_call(line, wanted, "undo")
                self.assert_state(line, wanted)
            self.assertEqual(line.row(), ROW)
            for _ in range(2):
                self.assertIs(line.undo(), False)
                wanted.call("undo")
                self.assert_state(line, wanted)

    def test_exchange(self):
        line, wanted = Line(ROW), PlainLine(ROW)
        for pair in ((0, 2), (0, 3), [0, 2], [0, 1], (0, 1), (1, 1), (2, 0), (-5, 3), (0, HUGE)):
            for by_name in (False, True):
                self.assert_call(line, wanted, "exchange", pair, by_name=by_name)
                self.assert_state(line, wanted)

    def test_blocked_is_a_runtime_error_with_a_tuple(self):
        for pair in ((0, 1), [0, 1]):
            with self.assertRaises(RuntimeError) as caught:
                Line(ROW).exchange(pair)
            self.assert_same(caught.exception.pair, (0, 1))
            with self.assertRaises(RuntimeError) as caught:
                Line(ROW).run([pair])
            self.assert_same(caught.exception.pair, (0, 1))

    def test_an_empty_run_is_an_operation(self):
        line, wanted = Line(ROW), PlainLine(ROW)
        for pairs in ([], ()):
            self.assert_call(line, wanted, "run", pairs)
            self.assert_state(line, wanted)
        self.assertEqual(line.operations(), 2)
        self.assertIs(line.undo(), True)
        self.assertEqual(line.operations(), 1)

    def test_a_run_with_one_pair_that_is_none_does_nothing(self):
        pairs, _ = random_walk(SIXTEEN, 30, seed=3)
        line, wanted = Line(SIXTEEN), PlainLine(SIXTEEN)
        for at in range(len(pairs) + 1):
            for wrong in ((0, 1), (5, 5), (-1, 3), (0, 16), (HUGE, -HUGE)):
                self.assert_call(line, wanted, "run", pairs[:at] + [wrong] + pairs[at:])
        self.assert_state(line, wanted)
        self.assertEqual(line.row(), SIXTEEN)
        self.assert_call(line, wanted, "run", pairs)
        self.assert_state(line, wanted)
        self.assertEqual(line.operations(), 1)

    def test_come_checks_in_order(self):
        for row in ((), (7,), ROW, SIXTEEN):
            many = len(row)
            for height in (*row, 100, 10 ** 9):
                for place in (-HUGE, -1, 0, many // 2, many, many + 1, HUGE):
                    for by_name in (False, True):
                        line, wanted = Line(row), PlainLine(row)
                        self.assert_call(line, wanted, "come", height, place, by_name=by_name)
                        self.assert_state(line, wanted)

    def test_full_is_an_overflow_error(self):
        line = Line(SIXTEEN[:15])
        self.assertEqual(line.come(15, 15), 16)
        for _ in range(2):
            with self.assertRaises(OverflowError) as caught:
                line.come(17, 0)
            self.assert_same(vars(caught.exception), {"many": 16})
        self.assertEqual(line.leave(16), 0)
        self.assertEqual(line.come(17, 0), 16)

    def test_leave(self):
        for row in ((), (7,), ROW, SIXTEEN):
            for height in (*row, -HUGE, -1, 0, 17, 10 ** 9, HUGE):
                for by_name in (False, True):
                    line, wanted = Line(row), PlainLine(row)
                    self.assert_call(line, wanted, "leave", height, by_name=by_name)
                    self.assert_state(line, wanted)

    def test_turn(self):
        for row in ((), (7,), ROW, SIXTEEN):
            line, wanted = Line(row), PlainLine(row)
            for _ in range(3):
                self.assert_call(line, wanted, "turn")
                self.assert_state(line, wanted)

    def test_lists_changed_after_the_call(self):
        line, wanted = Line([3, 1, 2]), PlainLine((3, 1, 2))
        pair, pairs = [0, 2], [[0, 2], [0, 2], [0, 2]]
        self.assert_call(line, wanted, "exchange", pair)
        self.assert_call(line, wanted, "run", pairs)
        line.exchange(pair)
        line.run(pairs)
        wanted.call("exchange", (0, 2))
        wanted.call("run", [(0, 2)] * 3)
        pair[:] = [5, 5]
        pairs[0][0] = 9
        pairs.clear()
        self.assert_state(line, wanted)
        with self.assertRaises(errors.Blocked) as caught:
            line.exchange(pair)
        pair[0] = 0
        self.assertEqual(caught.exception.pair, (5, 5))

    def test_returned_lists_belong_to_the_caller(self):
        line, wanted = self.walk(3, 20, ROW)
        for name in ("exchanges", "log"):
            spoil(getattr(line, name)())
            getattr(line, name)().clear()
        self.assert_state(line, wanted)
        self.assertTrue(line.log())

    def test_queries_are_not_logged(self):
        line = Line(ROW)
        line.turn()
        line.row(), line.codes(), line.runs(), line.count(), line.exchanges(), line.operations()
        line.as_of(0), line.as_of(many=1), line.twin(), line.log(), len(line), repr(line)
        self.assertTrue(line == line)
        self.assertEqual(line.log(), [("in", "turn"), ("out", "turn")])


class EarlierStates(LineCases):
    def walked(self, seed):
        """A line and a plain one after random operations."""
        chosen = random.Random(seed)
        line, wanted = Line(ROW), PlainLine(ROW)
        for _ in range(30):
            self.assert_call(line, wanted, *random_operation(chosen, wanted.row))
        return line, wanted

    def plain_as_of(self, wanted, many):
        found = PlainLine()
        found.rows = wanted.rows[:many + 1]
        return found

    def test_as_of_each_number(self):
        for seed in range(10):
            line, wanted = self.walked(seed)
            for many in range(line.operations() + 1):
                for made in (line.as_of(many), line.as_of(many=many)):
                    self.assertIs(type(made), Line)
                    earlier = self.plain_as_of(wanted, many)
                    self.assert_state(made, earlier)
                    for _ in range(many + 1):
                        self.assert_call(made, earlier, "undo")
                        self.assert_state(made, earlier)
            self.assert_state(line, wanted)

    def test_every_other_number(self):
        for seed in range(5):
            line, wanted = self.walked(seed)
            many = line.operations()
            for number in (-HUGE, -many - 1, -2, -1, many + 1, many + 2, 10 ** 9, HUGE):
                for call in (lambda: line.as_of(number), lambda: line.as_of(many=number)):
                    with self.assertRaises(LookupError) as caught:
                        call()
                    self.assertIs(type(caught.exception), errors.NoOperation)
                    self.assert_same(vars(caught.exception), {"many": number})
            self.assert_state(line, wanted)

    def test_no_operation_of_a_new_line(self):
        with self.assertRaises(errors.NoOperation):
            Line(ROW).as_of(1)
        self.assertEqual(Line(ROW).as_of(0).row(), ROW)

    def test_twin(self):
        for seed in range(10):
            line, wanted = self.walked(seed)
            twin, plain_twin = line.twin(), self.plain_as_of(wanted, len(wanted.rows))
            self.assertIs(type(twin), Line)
            self.assertIsNot(twin, line)
            self.assert_state(twin, plain_twin)
            while len(plain_twin.rows) > 1:
                self.assert_call(twin, plain_twin, "undo")
                self.assert_state(twin, plain_twin)
            self.assert_state(line, wanted)

    def test_nothing_done_to_one_line_changes_another_one(self):
        for seed in range(10):
            chosen = random.Random(seed)
            lines = [self.walked(seed)]
            for _ in range(4):
                line, wanted = chosen.choice(lines)
                many = chosen.randrange(line.operations() + 1)
                lines.append((line.as_of(many), self.plain_as_of(wanted, many)))
                lines.append((line.twin(), self.plain_as_of(wanted, len(wanted.rows))))
            for _ in range(20):
                line, wanted = chosen.choice(lines)
                self.assert_call(line, wanted, *random_operation(chosen, wanted.row))
                for other, other_wanted in lines:
                    self.assertEqual(other.row(), other_wanted.row)
                    self.assertEqual(other.log(), other_wanted.log)
                    self.assertEqual(other.operations(), len(other_wanted.rows) - 1)
            for line, wanted in lines:
                self.assert_state(line, wanted)


class Equality(unittest.TestCase):
    def test_equal_exactly_if_the_rows_are(self):
        rows = ((), (1,), (2,), (1, 2), (2, 1), (1, 2, 3), ROW, ROW[::-1])
        for one in rows:
            for other in rows:
                self.assertIs(Line(one) == Line(other), one == other)
                self.assertIs(Line(one) != Line(other), one != other)

    def test_whatever_was_done_before(self):
        line = Line((3, 1, 2))
        line.turn()
        line.turn()
        self.assertTrue(line == Line([3, 1, 2]))
        line.leave(3)
        line.exchanges()
        self.assertTrue(line == Line((1, 2)))
        self.assertFalse(line == Line((3, 1, 2)))
        line.undo()
        self.assertTrue(line.twin() == line)
        self.assertTrue(line.as_of(0) == line)

    def test_a_line_equals_nothing_else(self):
        class Equal:
            def __eq__(self, other):
                return True

        for row in ((), (7,), ROW):
            line = Line(row)
            others = (row, list(row), None, 0, 1, len(row), True, False, "", repr(line), Equal())
            for other in others:
                self.assertIs(line == other, False)
                self.assertIs(line != other, True)
            for other in others[:-1]:
                self.assertIs(other == line, False)
                self.assertIs(other != line, True)


class LikeANewLine(LineCases):
    def test_only_the_operations_in_effect_matter(self):
        for seed in range(15):
            chosen = random.Random(100 + seed)
            start = tuple(chosen.sample(range(1, 20), chosen.randrange(10)))
            line, wanted, effective = Line(start), PlainLine(start), []
            for _ in range(40):
                name, *values = random_operation(chosen, wanted.row)
                before = len(wanted.rows)
                self.assert_call(line, wanted, name, *values)
                if len(wanted.rows) > before:
                    effective.append((name, values))
                elif len(wanted.rows) < before:
                    effective.pop()
            new, new_wanted = Line(start), PlainLine(start)
            for name, values in effective:
                self.assert_call(new, new_wanted, name, *values)
            self.assert_state(new, new_wanted)
            self.assertTrue(new == line)
            self.assert_same_answers(line, new)

    def assert_same_answers(self, line, new):
        """Both answer every query alike, now and in each earlier state; the logs differ."""
        for name in ("row", "codes", "runs", "count", "exchanges", "operations"):
            self.assert_same(getattr(line, name)(), getattr(new, name)())
        self.assertEqual((len(line), repr(line)), (len(new), repr(new)))
        for many in range(line.operations() + 1):
            self.assertEqual(line.as_of(many).row(), new.as_of(many).row())
        # What comes afterwards is the same, too.
        chosen = random.Random(1)
        wanted = PlainLine()
        wanted.rows = [line.as_of(many).row() for many in range(line.operations() + 1)]
        old, fresh = line.twin(), new.twin()
        for _ in range(20):
            name, *values = random_operation(chosen, wanted.row)
            copied = copy.deepcopy(wanted)
            self.assert_call(old, wanted, name, *values)
            self.assert_call(fresh, copied, name, *values)
            self.assertEqual(old.row(), fresh.row())


class Bounds(LineCases):
    def test_sixteen_people_and_sixty_operations(self):
        chosen = random.Random(16)
        heights = chosen.sample(range(1, 10 ** 9 + 1), 16)
        line, wanted = Line(), PlainLine()
        for height in heights:
            place = chosen.randrange(len(line) + 1)
            self.assert_call(line, wanted, "come", height, place)
        while line.operations() < 60:
            if wanted.row and chosen.random() < 0.2:
                self.assert_call(line, wanted, "turn")
            else:
                pairs, _ = random_walk(wanted.row, 20, seed=line.operations())
                self.assert_call(line, wanted, "run", pairs)
            self.assert_state(line, wanted)
        self.assertEqual(line.operations(), 60)
        for many in range(61):
            self.assertEqual(line.as_of(many).row(), wanted.rows[many])
        self.assertEqual(line.count(), count_rows(line.row()))

    def test_a_run_of_a_thousand_exchanges(self):
        pairs, reached = random_walk(SIXTEEN, 1000, seed=5)
        line = Line(SIXTEEN)
        self.assertIsNone(line.run(pairs))
        self.assertEqual(line.row(), reached)
        self.assertEqual(line.operations(), 1)
        self.assertIsNone(line.run(pairs[::-1]))
        self.assertEqual(line.row(), SIXTEEN)

    def test_more_people_than_the_bound_from_the_start(self):
        line = Line(tuple(range(1, 19)))
        self.assertEqual(len(line), 18)
        with self.assertRaises(errors.Full) as caught:
            line.come(50, 0)
        self.assertEqual(caught.exception.many, 16)


if __name__ == "__main__":
    unittest.main()
