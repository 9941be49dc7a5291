"""Sheets, promise [18], with the general rules [2] and [3]."""

import random
import re
import unittest

from overlooks import errors
from overlooks.sheet import answers
from tests.helpers import (
    Cases, Failed, PlainLine, plain_bar, plain_codes, plain_exchanges, plain_runs, random_operation,
)

NUMBER = "(?:0|[1-9][0-9]{0,9})"
HEIGHT = "[1-9][0-9]{0,9}"
ROW_FORM = f"(?:-|{HEIGHT}(?: {HEIGHT})*)"
PAIR_FORM = f"{NUMBER}-{NUMBER}"
ORDER_FORM = re.compile(
    f"exchange {PAIR_FORM}|run (?:-|{PAIR_FORM}(?: {PAIR_FORM})*)|come {HEIGHT} {NUMBER}"
    f"|leave {HEIGHT}|turn|undo|show|rows|codes|exchanges|lead {ROW_FORM}"
)
FIRST_FORM = re.compile(f"line {ROW_FORM}")

# One order of each kind, with a row that it fits.
ORDERS = (
    "exchange 0-2", "run 0-2 0-2", "run -", "come 4 3", "leave 2", "turn", "undo", "show", "rows",
    "codes", "exchanges", "lead 2 1 3", "lead -",
)
BAD_ORDERS = (
    " ", "  ", "-", "x", "0", "jump", "Show", "SHOW", "shows", "sho", "show ", " show", "show -",
    "show 1", "show show", "turn ", "turn 1", "turn -", " turn", "undo 1", "undo -", "undo  ",
    "rows 1", "rows -", "codes 1", "codes -", "exchanges 1", "exchanges -", "exchanges 0-2",
    "exchange", "exchange ", "exchange -", "exchange  0-2", "exchange 0-2 ", "exchange 0-2 0-3",
    "exchange 0 2", "exchange 0", "exchange 00-2", "exchange 0-02", "exchange 0--2", "exchange -0-2",
    "exchange 0-2-4", "exchange a-b", "exchange 0-12345678901", "exchange 12345678901-0",
    "exchange0-2", "exchange\t0-2", "run", "run ", "run  -", "run - ", "run --", "run - -",
    "run 0-2 -", "run - 0-2", "run 0-2  0-3", "run 0-2 0-3 ", "run 0-2 3", "run 0", "run 01-3",
    "run 0-2 0-12345678901", "come", "come ", "come 4", "come 4 ", "come 4 3 1", "come 4 3 ",
    "come  4 3", "come 4  3", "come 0 3", "come 04 3", "come 4 03", "come 4 00", "come -4 3",
    "come 4 -1", "come 4 -", "come - 3", "come 4-3", "come 12345678901 3", "come 4 12345678901",
    "come a 3", "come 4 b", "come +4 3", "come 4.0 3", "leave", "leave ", "leave 0", "leave 02",
    "leave 2 ", "leave  2", "leave 2 3", "leave -", "leave -2", "leave 12345678901", "leave x",
    "lead", "lead ", "lead 0", "lead 3 1 0", "lead 3 3", "lead 3 1 3", "lead 3  1", "lead 3 1 ",
    "lead  3 1", "lead 03 1", "lead 3 -", "lead - 3", "lead --", "lead 12345678901", "lead a",
    "lead 3,1", "line 3 1 2", "line -", "line", "line ", "line x", "# show", "show\r", "show\t",
)
BAD_FIRSTS = (
    " ", "line", "line ", "line  3 1", "line 3 1 ", " line 3 1", "Line 3 1", "lines 3 1", "line3 1",
    "3 1 2", "-", "show", "turn", "lead 3 1", "row 3 1", "run -", "line 0", "line 3 0", "line 3 3",
    "line 3 1 3", "line 03 1", "line 3 01", "line -1", "line --", "line - -", "line 3 -", "line - 3",
    "line 12345678901", "line 1 12345678901", "line a", "line 3,1", "line (3, 1)", "line\t3 1",
    "line " + " ".join(map(str, range(1, 18))), "line " + " ".join(map(str, range(1, 41))),
    "line line 3", "line 3 1\r",
)


def is_order(written):
    """Whether a line other than the first one is written as the document says."""
    if not ORDER_FORM.fullmatch(written):
        return False
    return not written.startswith("lead ") or has_different_words(written)


def is_first(written):
    """Whether the first line is written as the document says."""
    if not FIRST_FORM.fullmatch(written) or len(written.split(" ")) > 17:
        return False
    return has_different_words(written)


def has_different_words(written):
    words = written.split(" ")
    return len({*words}) == len(words)


def joined(items):
    """The items with blanks between them, or the sign for none."""
    return " ".join(map(str, items)) or "-"


def count_of(row):
    total = 1
    for first, last in plain_runs(row):
        total *= last - first + 1
    return total


def plain_lead(row, other):
    if sorted(row) != sorted(other):
        return "error OtherPeople"
    height = plain_bar(row, other)
    return "yes" if height is None else f"no {height}"


def as_order(name, *values):
    """The text of an operation."""
    if name == "exchange":
        return f"exchange {values[0][0]}-{values[0][1]}"
    if name == "run":
        return "run " + joined(f"{i}-{j}" for i, j in values[0])
    return " ".join(map(str, (name, *values)))


def as_answer(name, result):
    """The text of what an operation returned."""
    if name == "exchange":
        height, step = result
        return f"{height} +1" if step == 1 else f"{height} -1"
    if name == "undo":
        return "yes" if result else "no"
    return "done" if result is None else str(result)


def random_order(chosen, line):
    """The text of an order, and its answer by the plain line."""
    row = line.row
    if chosen.random() < 0.5:
        other = chosen.choice((row, row[::-1], tuple(sorted(row)), row[1:], (*row, 10 ** 9 + 1)))
        return chosen.choice((
            ("show", joined(row)),
            ("rows", str(count_of(row))),
            ("codes", joined(plain_codes(row))),
            ("exchanges", joined(f"{i}-{j}" for i, j in plain_exchanges(row))),
            ("lead " + joined(other), plain_lead(row, other)),
        ))
    operation = ("come", 1, -1)
    while not is_order(as_order(*operation)):
        operation = random_operation(chosen, row, huge=9999999999)
    name = operation[0]
    try:
        return as_order(*operation), as_answer(name, line.call(*operation))
    except Failed as failed:
        return as_order(*operation), f"error {failed.args[0]}"


class Examples(Cases):
    def test_answers(self):
        self.assert_same(
            answers(
                "line 3 1 2\nexchange 0-2\nshow\ncome 4 3\nrows\nlead 4 1 2 3\nlead 1 2 3 4\n"
                "exchange 0-1\ncodes"
            ),
            ["2 -1", "2 1 3", "4", "4", "yes", "no 1", "error Blocked", "1 0 0 0"],
        )

    def test_bad_line(self):
        self.assert_raises(errors.BadLine, {"number": 0}, answers, text="line 3 3")


class Answers(Cases):
    def assert_answers(self, start, *pairs):
        """Each order has the answer beside it."""
        text = "\n".join([f"line {start}", *(order for order, answer in pairs)])
        self.assert_returns([answer for order, answer in pairs], answers, text=text)

    def test_only_a_row(self):
        for start in ("-", "7", "3 1 2", "1000000000 9999999999", joined(range(16, 0, -1))):
            self.assert_returns([], answers, text=f"line {start}")

    def test_exchange(self):
        self.assert_answers(
            "3 1 2 5 4", ("exchange 0-2", "2 -1"), ("exchange 0-2", "2 +1"),
            ("exchange 0-3", "3 +1"), ("show", "5 1 2 3 4"), ("exchange 0-1", "error Blocked"),
            ("exchange 3-0", "error Blocked"), ("exchange 0-0", "error Blocked"),
            ("exchange 9999999999-0", "error Blocked"), ("exchange 0-9999999999", "error Blocked"),
            ("show", "5 1 2 3 4"),
        )

    def test_run(self):
        self.assert_answers(
            "3 1 2 5 4", ("run 0-3 0-4", "done"), ("show", "4 1 2 3 5"), ("run -", "done"),
            ("run 0-4 0-3 0-1", "error Blocked"), ("show", "4 1 2 3 5"), ("undo", "yes"),
            ("undo", "yes"), ("undo", "no"), ("show", "3 1 2 5 4"),
        )

    def test_come(self):
        self.assert_answers(
            "-", ("come 5 0", "1"), ("come 6 0", "2"), ("come 9999999999 1", "3"),
            ("show", "6 9999999999 5"), ("come 7 4", "error NoPlace"), ("come 5 4", "error NoPlace"),
            ("come 5 9999999999", "error NoPlace"), ("come 5 3", "error Known"),
            ("show", "6 9999999999 5"),
        )

    def test_full(self):
        self.assert_answers(
            joined(range(1, 17)), ("come 17 16", "error Full"), ("come 16 3", "error Known"),
            ("come 17 17", "error NoPlace"), ("leave 1", "0"), ("come 17 15", "16"),
            ("show", joined(range(2, 18))),
        )

    def test_leave(self):
        self.assert_answers(
            "30 10 20", ("leave 20", "2"), ("leave 20", "error NoPerson"), ("leave 30", "0"),
            ("leave 9999999999", "error NoPerson"), ("leave 10", "0"), ("show", "-"),
            ("leave 10", "error NoPerson"),
        )

    def test_turn_and_undo(self):
        self.assert_answers(
            "3 1 2", ("undo", "no"), ("turn", "done"), ("show", "2 1 3"), ("turn", "done"),
            ("turn", "done"), ("undo", "yes"), ("show", "3 1 2"), ("undo", "yes"), ("undo", "yes"),
            ("undo", "no"), ("show", "3 1 2"),
        )

    def test_queries(self):
        self.assert_answers(
            "3 1 2 5 4", ("show", "3 1 2 5 4"), ("rows", "8"), ("codes", "1 1 0 1 0"),
            ("exchanges", "0-2 0-3"),
        )
        self.assert_answers(
            "-", ("show", "-"), ("rows", "1"), ("codes", "-"), ("exchanges", "-"), ("lead -", "yes"),
            ("turn", "done"), ("run -", "done"), ("lead 1", "error OtherPeople"),
        )
        self.assert_answers("1 2", ("exchanges", "-"), ("codes", "0 0"), ("rows", "1"))
        self.assert_answers(
            "16 14 12 10 8 6 4 2 1 3 5 7 9 11 13 15", ("rows", "1625702400"),
        )

    def test_lead(self):
        self.assert_answers(
            "30 10 20 40", ("lead 20 10 40 30", "yes"), ("lead 30 10 40 20", "no 20"),
            ("lead 10 20 30 40", "no 10"), ("lead 30 10 20", "error OtherPeople"),
            ("lead -", "error OtherPeople"), ("lead 30 10 20 50", "error OtherPeople"),
            ("lead " + joined(range(1, 60)), "error OtherPeople"), ("undo", "no"),
        )

    def test_empty_lines(self):
        self.assert_returns(["3 1 2"], answers, text="\n\nline 3 1 2\n\n\nshow\n")
        self.assert_returns([], answers, text="\n\nline -\n\n")
        self.assert_returns(["no", "done"], answers, text="line 5\nundo\n\n\n\nturn")

    def test_random_sheets(self):
        for seed in range(150):
            chosen = random.Random(seed)
            start = tuple(chosen.sample(range(1, 18), chosen.randrange(17)))
            line = PlainLine(start)
            lines, wanted = ["line " + joined(start)], []
            for _ in range(chosen.randrange(60)):
                order, answer = random_order(chosen, line)
                lines.append(order)
                wanted.append(answer)
                lines += [""] * chosen.choice((0, 0, 0, 1, 2))
            text = "\n" * chosen.randrange(3) + "\n".join(lines)
            self.assert_same(answers(text), wanted)
            self.assert_same(answers(text=text), wanted)


class BadLines(Cases):
    def assert_bad(self, number, text):
        self.assert_raises(errors.BadLine, {"number": number}, answers, text=text)

    def test_empty_lines_alone(self):
        for many in range(1, 61):
            self.assert_bad(many, "\n" * (many - 1))
        self.assert_bad(1, "")
        self.assert_bad(2, "\n")

    def test_it_is_a_value_error(self):
        with self.assertRaises(ValueError) as caught:
            answers("line 1\nshow\njump")
        self.assertEqual(caught.exception.number, 2)

    def test_first_lines(self):
        for first in BAD_FIRSTS:
            self.assertFalse(is_first(first), first)
            self.assert_bad(0, first)
            self.assert_bad(0, f"{first}\nline 3 1 2\nshow")
            self.assert_bad(2, f"\n\n{first}\nshow\njump")
        for order in ORDERS:
            self.assert_bad(0, order)
            self.assert_bad(1, f"\n{order}\nline 3 1 2")

    def test_at_most_sixteen_people(self):
        for many in range(20):
            text = "line " + joined(range(1, many + 1))
            if many <= 16:
                self.assert_returns([], answers, text=text)
            else:
                self.assert_bad(0, text)

    def test_later_lines(self):
        for order in BAD_ORDERS:
            self.assertFalse(is_order(order), order)
            self.assert_bad(1, f"line 3 1 2\n{order}")
            self.assert_bad(4, f"\nline 3 1 2\n\nshow\n{order}\nturn")

    def test_the_first_of_several(self):
        self.assert_bad(1, "line 3 1 2\njump\nshow 1\nline 2")
        self.assert_bad(0, "line 3 3\njump")
        self.assert_bad(3, "line 3 1 2\nexchange 0-1\nundo\nlead 0\njump")

    def test_a_second_row(self):
        self.assert_bad(1, "line 3 1 2\nline 3 1 2")
        self.assert_bad(3, "line 3 1 2\n\nshow\nline -")

    def test_orders_that_fail_come_after_the_check(self):
        self.assert_bad(2, "line 3 1 2\nleave 9\n jump")

    def test_orders_of_each_kind(self):
        for order in ORDERS:
            self.assertTrue(is_order(order), order)
            self.assertEqual(len(answers(f"line 3 1 2\n{order}")), 1)

    def test_spoilt_orders(self):
        """One character more, fewer, or in the place of another one."""
        for order in ORDERS:
            for at in range(len(order) + 1):
                for sign in ("", *"0129 -aeghnostw\t"):
                    self.assert_judged(1, is_order, "line 3 1 2\n", order[:at] + sign + order[at:])
                    self.assert_judged(
                        1, is_order, "line 3 1 2\n", order[:at] + sign + order[at + 1:]
                    )

    def test_spoilt_first_lines(self):
        for first in ("line -", "line 7", "line 10 2 33", "line 1000000000 1"):
            for at in range(len(first) + 1):
                for sign in ("", *map(chr, range(32, 127))):
                    self.assert_judged(0, is_first, "", first[:at] + sign + first[at:])
                    self.assert_judged(0, is_first, "", first[:at] + sign + first[at + 1:])

    def assert_judged(self, number, is_good, before, written):
        if is_good(written) or (number and not written):
            self.assertEqual(len(answers(before + written)), number if written else 0)
        else:
            with self.assertRaises(errors.BadLine, msg=written) as caught:
                answers(before + written)
            self.assertEqual(caught.exception.number, number)


class Bounds(Cases):
    def test_sixty_lines_of_two_hundred_characters(self):
        pairs = " ".join(["0-2"] * 49)
        line = f"run {pairs}"
        self.assertEqual(len(line), 199)
        text = "\n".join(["line 3 1 2", *[line] * 58, "show"])
        self.assert_returns(["done"] * 58 + ["3 1 2"], answers, text=text)

    def test_the_longest_numbers(self):
        text = "line 9999999999 1 9999999998\nexchange 0-2\nlead 1 9999999999 9999999998"
        self.assert_returns(["9999999998 -1", "no 1"], answers, text=text)


if __name__ == "__main__":
    unittest.main()
