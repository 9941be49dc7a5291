"""Texts of rows and of lists of pairs of places."""

from overlooks.errors import BadText
from overlooks.rows import is_row

NOTHING = "-"
MOST_DIGITS = 10


def row_text(row):
    """The text of a row."""
    return joined([str(height) for height in row])


def pairs_text(pairs):
    """The text of a list of pairs of places."""
    return joined([f"{left}-{right}" for left, right in pairs])


def row_in(text):
    """The row with that text."""
    words = words_in(text)
    if not all([is_written_number(word) for word in words]):
        raise BadText(text)
    row = tuple([int(word) for word in words])
    if not is_row(row):
        raise BadText(text)
    return row


def pairs_in(text):
    """The list of pairs of places with that text."""
    parts = [word.split("-") for word in words_in(text)]
    if not all([is_written_pair(part) for part in parts]):
        raise BadText(text)
    return [(int(left), int(right)) for left, right in parts]


def joined(words):
    """The words with one blank between them, or the sign for none."""
    return " ".join(words) if words else NOTHING


def words_in(text):
    """What stands between the single blanks of text; nothing if it is the sign for none."""
    return [] if text == NOTHING else text.split(" ")


def is_written_number(word):
    """Whether word is a number as texts have it."""
    # The length comes first: Python refuses to read very long numbers.
    if len(word) > MOST_DIGITS or not word.isascii() or not word.isdigit():
        return False
    return str(int(word)) == word


def is_written_pair(part):
    """Whether part consists of the two numbers of a pair."""
    return len(part) == 2 and all([is_written_number(word) for word in part])
