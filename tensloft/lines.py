"""Rows of the machine as lines of text ([16])."""

from tensloft.errors import BadLine
from tensloft.rows import MOST_CELLS, MOST_TABLES, bounds_of, is_right
from tensloft.texts import FIGURES

MOST_LINES = 200
# No number of a row has more figures than this; so no long text is turned into a number.
MOST_FIGURES_OF_A_NUMBER = 3
NO_NUMBER = -1


def rows_written(rows):
    """The text of rows, a line for each."""
    return "\n".join([line_of(row) for row in rows])


def line_of(row):
    """The line of one row."""
    return " ".join([str(part) for part in row])


def rows_told(text):
    """The rows that a text is read to; refuses with BadLine."""
    if text == "":
        return ()
    bounds = bounds_of(MOST_CELLS, MOST_TABLES)
    rows = []
    for at, line in enumerate(text.split("\n")):
        row = row_told(line)
        if at == MOST_LINES or not is_right(row, bounds):
            raise BadLine(at)
        rows.append(row)
    return tuple(rows)


def row_told(line):
    """What a line is read to, which may be no right row."""
    words = line.split(" ")
    numbers = [number_told(text) for text in words[1:]]
    return (words[0], *numbers)


def number_told(text):
    """The number of a text, or one that stands in no row."""
    if not 1 <= len(text) <= MOST_FIGURES_OF_A_NUMBER:
        return NO_NUMBER
    if not all(sign in FIGURES for sign in text):
        return NO_NUMBER
    number = int(text)
    # A nought ahead is written by no number.
    return number if str(number) == text else NO_NUMBER
