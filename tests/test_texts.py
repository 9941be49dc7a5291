"""Texts of rows and pairs, promise [17], with the general rules [2] and [3]."""

import itertools
import re
import unittest

from overlooks import errors
from overlooks.texts import pairs_in, pairs_text, row_in, row_text
from tests.helpers import ROW, Cases, large_rows, random_walk, small_rows

NUMBER = "(?:0|[1-9][0-9]{0,9})"
HEIGHT = "[1-9][0-9]{0,9}"
ROW_FORM = re.compile(f"{HEIGHT}(?: {HEIGHT})*")
PAIRS_FORM = re.compile(f"{NUMBER}-{NUMBER}(?: {NUMBER}-{NUMBER})*")

# Texts that are neither a row's nor a list's.
BAD_TEXTS = (
    "", " ", "  ", "--", "---", "- ", " -", "- -", "-\n", "\n", "\t", "a", "one", "()", "[]",
    "(3, 1)", "3,1", "3, 1", "3.1", "1e3", "0x1", "1_0", "+1", "-1", "1-", "+0-2", "0-+2", "\x00",
    "3 1 ", " 3 1", "3  1", "3\t1", "3\n1", "3 1\n", "\n3 1", "3\r1", "3 -", "- 3", "3 1 -",
    "03", "3 01", "00", "00 1", "12345678901", "1 12345678901", "0" * 11, "1" * 6000,
    "0-2 ", " 0-2", "0-2  0-3", "0-2\t0-3", "0-2\n", "0-2 -", "- 0-2", "0-2 3", "0--2", "0-2-4",
    "-0-2", "0-2-", "00-2", "0-02", "0-12345678901", "12345678901-0", "0 -2", "0- 2", "0 - 2",
    "0-" + "1" * 6000, "0-2 0-2-0", "a-b", "0:2", "(0, 2)",
)


def wanted_row(text):
    """The row with that text by the document's words; None if there is none."""
    if text == "-":
        return ()
    if not ROW_FORM.fullmatch(text):
        return None
    row = tuple(map(int, text.split(" ")))
    return row if len(set(row)) == len(row) else None


def wanted_pairs(text):
    """The list with that text by the document's words; None if there is none."""
    if text == "-":
        return []
    if not PAIRS_FORM.fullmatch(text):
        return None
    return [tuple(map(int, word.split("-"))) for word in text.split(" ")]


def short_texts():
    """Every text of few characters of those that matter."""
    for many in range(6):
        for signs in itertools.product("012 -\n", repeat=many):
            yield "".join(signs)


def spoilt_texts(text):
    """The text with any one character more, fewer, or in the place of another one."""
    for at in range(len(text) + 1):
        yield text[:at] + text[at + 1:]
        for sign in map(chr, range(128)):
            yield text[:at] + sign + text[at:]
            yield text[:at] + sign + text[at + 1:]


class Examples(Cases):
    def test_texts_and_values(self):
        self.assert_same(
            (row_text(ROW), pairs_text([(0, 2), (0, 3)]), row_in("3 1 2 5 4"), pairs_in("0-2 0-3")),
            ("3 1 2 5 4", "0-2 0-3", (3, 1, 2, 5, 4), [(0, 2), (0, 3)]),
        )

    def test_bad_text(self):
        self.assert_raises(errors.BadText, {"text": "3 1 3"}, row_in, text="3 1 3")


class RowText(Cases):
    def test_rows(self):
        for row in (*small_rows(), *large_rows()):
            wanted = "-"
            for place, height in enumerate(row):
                wanted = f"{wanted} {height}" if place else f"{height}"
            self.assert_returns(wanted, row_text, row=row)
            self.assert_returns(row, row_in, text=wanted)

    def test_by_hand(self):
        self.assert_returns("-", row_text, row=())
        self.assert_returns("1000000000", row_text, row=(10 ** 9,))
        self.assert_returns("10 100 1", row_text, row=(10, 100, 1))
        self.assert_returns("9999999999 1", row_text, row=row_in("9999999999 1"))


class PairsText(Cases):
    def test_walks(self):
        for many in (0, 1, 2, 30, 1000):
            pairs, _ = random_walk((16, 14, 12, 10, 1, 3, 5, 7, 9, 11, 13, 15), many, seed=many)
            self.assertEqual(len(pairs), many)
            wanted = " ".join(f"{i}-{j}" for i, j in pairs) or "-"
            self.assert_returns(wanted, pairs_text, pairs=pairs)
            self.assert_returns(pairs, pairs_in, text=wanted)

    def test_by_hand(self):
        self.assert_returns("-", pairs_text, pairs=[])
        self.assert_returns("0-2", pairs_text, pairs=[(0, 2)])
        self.assert_returns("10-15 3-3 7-0", pairs_text, pairs=[(10, 15), (3, 3), (7, 0)])


class Reading(Cases):
    def assert_read(self, wanted, function, text):
        if wanted is None:
            self.assert_raises(errors.BadText, {"text": text}, function, text=text)
        else:
            self.assert_returns(wanted, function, text=text)

    def assert_refused(self, wanted, function, texts):
        for text in texts:
            self.assertIsNone(wanted(text))
            self.assert_read(None, function, text)
            with self.assertRaises(ValueError):
                function(text)

    def assert_all_read(self, wanted, function, texts):
        for text in texts:
            self.assert_read(wanted(text), function, text)


class RowIn(Reading):
    def test_by_hand(self):
        self.assert_returns((), row_in, text="-")
        self.assert_returns((7,), row_in, text="7")
        self.assert_returns((10, 1, 100), row_in, text="10 1 100")

    def test_judged_whatever_the_bounds(self):
        self.assert_returns((10 ** 9 + 1, 9999999999), row_in, text="1000000001 9999999999")
        text = " ".join(map(str, range(40, 0, -1)))
        self.assert_returns(tuple(range(40, 0, -1)), row_in, text=text)

    def test_bad_texts(self):
        self.assert_refused(wanted_row, row_in, BAD_TEXTS)
        bad = ("0", "1 0", "0 1", "1 1", "3 1 3", "7 8 9 7", "0-2", "1-2")
        self.assert_refused(wanted_row, row_in, bad)

    def test_short_texts(self):
        self.assert_all_read(wanted_row, row_in, short_texts())

    def test_spoilt_texts(self):
        for text in ("-", "5", "10 2 33", "1000000000 1"):
            self.assert_all_read(wanted_row, row_in, spoilt_texts(text))


class PairsIn(Reading):
    def test_any_two_numbers_make_a_pair(self):
        self.assert_returns([], pairs_in, text="-")
        self.assert_returns([(0, 0)], pairs_in, text="0-0")
        self.assert_returns([(5, 3), (0, 1), (0, 1)], pairs_in, text="5-3 0-1 0-1")
        self.assert_returns([(9999999999, 1000000001)], pairs_in, text="9999999999-1000000001")

    def test_bad_texts(self):
        self.assert_refused(wanted_pairs, pairs_in, BAD_TEXTS)
        self.assert_refused(wanted_pairs, pairs_in, ("0", "3", "3 1"))

    def test_short_texts(self):
        self.assert_all_read(wanted_pairs, pairs_in, short_texts())

    def test_spoilt_texts(self):
        for text in ("-", "0-2", "0-10 12-3", "1000000000-0"):
            self.assert_all_read(wanted_pairs, pairs_in, spoilt_texts(text))


if __name__ == "__main__":
    unittest.main()
