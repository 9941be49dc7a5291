"""Sheets: texts with a row in the first line, and an order to a Line in each other one."""

from overlooks.errors import BadLine, BadText, Blocked, Full, Known, NoPerson, NoPlace, OtherPeople
from overlooks.leading import bar
from overlooks.line import Line
from overlooks.most import MOST_PEOPLE
from overlooks.texts import is_written_number, joined, pairs_in, pairs_text, row_in, row_text

# The orders that consist of one word.
ALONE = ("turn", "undo", "show", "rows", "codes", "exchanges")


def answers(text):
    """The list of the answers to all orders of the text."""
    orders = orders_in(text)
    line = Line(orders[0][1])
    found = []
    for word, value in orders[1:]:
        found.append(answer(line, word, value))
    return found


def orders_in(text):
    """The orders of all lines that are not empty: pairs of a word and what follows it."""
    lines = text.split("\n")
    orders = []
    for number, written in enumerate(lines):
        if written != "":
            try:
                orders.append(order_in(written) if orders else first_order_in(written))
            except BadText:
                raise BadLine(number) from None
    if not orders:
        raise BadLine(len(lines))
    return orders


def first_order_in(written):
    """The word line, and the row at first."""
    word, blank, rest = written.partition(" ")
    row = row_in(rest)
    if word != "line" or len(row) > MOST_PEOPLE:
        raise BadText(written)
    return (word, row)


def order_in(written):
    """The word of an order, and the value that follows it; None for a word alone."""
    word, blank, rest = written.partition(" ")
    if word == "exchange":
        return (word, one_pair_in(rest))
    if word == "run":
        return (word, pairs_in(rest))
    if word == "come":
        return (word, height_and_more_in(rest, 2))
    if word == "leave":
        return (word, height_and_more_in(rest, 1))
    if word == "lead":
        return (word, row_in(rest))
    # The whole line is compared: not even a blank may follow the word.
    if written in ALONE:
        return (word, None)
    raise BadText(written)


def one_pair_in(text):
    """The pair that is the only one of the list with that text."""
    pairs = pairs_in(text)
    if len(pairs) != 1:
        raise BadText(text)
    return pairs[0]


def height_and_more_in(text, many):
    """As many numbers, the first of them a height from 1."""
    words = text.split(" ")
    if len(words) != many or not all([is_written_number(word) for word in words]):
        raise BadText(text)
    numbers = [int(word) for word in words]
    if numbers[0] < 1:
        raise BadText(text)
    return numbers


def answer(line, word, value):
    """The answer of the line to one order, also if it raises an error."""
    try:
        return answer_alone(line, word) if word in ALONE else answer_about(line, word, value)
    except Blocked:
        return "error Blocked"
    except NoPlace:
        return "error NoPlace"
    except Known:
        return "error Known"
    except Full:
        return "error Full"
    except NoPerson:
        return "error NoPerson"
    except OtherPeople:
        return "error OtherPeople"


def answer_about(line, word, value):
    """The answer to an order in which a value follows the word."""
    if word == "exchange":
        height, step = line.exchange(value)
        return f"{height} {step:+d}"
    if word == "run":
        line.run(value)
        return "done"
    if word == "come":
        height, place = value
        return str(line.come(height, place))
    if word == "leave":
        return str(line.leave(value[0]))
    return lead_answer(line, value)


def lead_answer(line, row):
    """Whether the row of the line leads to that row, or the bar."""
    barred = bar(line.row(), row)
    return "yes" if barred is None else f"no {barred}"


def answer_alone(line, word):
    """The answer to an order of one word."""
    if word == "turn":
        line.turn()
        return "done"
    if word == "undo":
        return "yes" if line.undo() else "no"
    if word == "show":
        return row_text(line.row())
    if word == "rows":
        return str(line.count())
    if word == "codes":
        return joined([str(code) for code in line.codes()])
    return pairs_text(line.exchanges())
