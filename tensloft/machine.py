"""The machine: programs looked at and run ([14], [15])."""

from tensloft.errors import NoRow, NoTable
from tensloft.rows import MOST_TABLES, bounds_of, is_right

MOST_ROWS = 9000


def run(program, cells, mark):
    """The cells and the mark behind all rows; refuses with NoTable, then with NoRow."""
    look_through(program, len(cells))
    tables, rows = program
    work = list(cells)
    for row in rows:
        mark = step(tables, work, mark, row)
    return (tuple(work), mark)


def look_through(program, cells):
    """Refuses a program that is none for so many cells."""
    tables, rows = program
    for at, table in enumerate(tables):
        if at == MOST_TABLES or not is_table(table):
            raise NoTable(at)
    bounds = bounds_of(cells, len(tables))
    for at, row in enumerate(rows):
        if at == MOST_ROWS or not is_right(row, bounds):
            raise NoRow(at)


def is_table(table):
    """Whether a tuple of whole numbers is a table."""
    return len(table) == 256 and 0 <= min(table) and max(table) <= 255


def step(tables, cells, mark, row):
    """Does a right row on a list of cells; the mark behind it."""
    word = row[0]
    if word == "mark":
        return row[1]
    a = row[1]
    if word == "left":
        return store(cells, a, 2 * cells[a] + mark)
    if word == "right":
        odd = cells[a] % 2
        cells[a] = cells[a] // 2 + 128 * mark
        return odd
    if word == "add":
        return store(cells, a, cells[a] + cells[row[2]])
    if word == "addc":
        return store(cells, a, cells[a] + cells[row[2]] + mark)
    cells[a] = byte_behind(tables, cells, row)
    return mark


def store(cells, a, total):
    """Puts what a byte holds of the total into the cell; the mark is what it doesn't."""
    cells[a] = total % 256
    return total // 256


def byte_behind(tables, cells, row):
    """What a row that leaves the mark makes of its cell."""
    word, a, b = row
    if word == "look":
        return tables[b][cells[a]]
    if word == "copy":
        return cells[b]
    if word == "or":
        return cells[a] | cells[b]
    if word == "and":
        return cells[a] & cells[b]
    return b
