"""Programs for sums ([17] to [19])."""

from tensloft.errors import TooLong
from tensloft.figures import UP_TO_THE_MARK, add_figure, add_number, halves_in_work, keep_number, lay_halves
from tensloft.figures import mark_where, read_both, read_number
from tensloft.keeping import bytes_of
from tensloft.shapes import MOST_FIGURES
from tensloft.sheets import Sheet

LOW_HALF = 15


def sum_rows(shape):
    """The program for the sum of two operands of the shape."""
    sheet = Sheet()
    one, other = read_both(sheet, shape)
    sheet.do("mark", 0)
    add_number(sheet, one, other)
    keep_number(sheet, shape, one)
    return sheet.program()


def sum_parts(figures):
    """The program for the plain sum, and the one that puts it right; refuses with TooLong."""
    if not 1 <= figures <= MOST_FIGURES:
        raise TooLong(figures)
    shape = ("packed", figures, "none", 0)
    return (plain_sum(shape), put_right(shape))


def plain_sum(shape):
    """The program for the plain sum, which overwrites the first operand and so saves it."""
    sheet = Sheet()
    many = bytes_of(shape)
    for at, cell in enumerate(saved_cells(sheet, many)):
        sheet.do("copy", cell, at)
    add_bytes(sheet, 0, many, many)
    return sheet.program()


def saved_cells(sheet, many):
    """The cells of the first operand, saved: the same ones in both programs, as each takes them first."""
    return sheet.fresh(many)


def add_bytes(sheet, at, other, many):
    """Adds a row of so many bytes to another one; the mark becomes the carry."""
    sheet.do("mark", 0)
    for place in reversed(range(many)):
        sheet.do("addc", at + place, other + place)


def put_right(shape):
    """The program that adds the sixes to the plain sum."""
    kind, figures, sign, point = shape
    sheet = Sheet()
    many = bytes_of(shape)
    saved = saved_cells(sheet, many)
    one = read_number(sheet, shape, saved[0], figures)
    other = read_number(sheet, shape, many, figures)
    sixes = sixes_of(sheet, one, other)
    laid = sheet.fresh(many)
    lay_halves(sheet, laid[0], halves_in_work(sheet, shape, sixes, None))
    add_bytes(sheet, 0, laid[0], many)
    if figures % 2 == 1:
        # The carry has gone into the half ahead.
        sheet.do("and", 0, sheet.holding(LOW_HALF))
    mark_where(sheet, sixes[-1])
    return sheet.program()


def sixes_of(sheet, one, other):
    """The cells of the first number, which become 6 where a figure of the sum carries, else 0."""
    sheet.do("mark", 0)
    for cell, added in zip(one, other):
        add_figure(sheet, cell, added)
        sheet.look(cell, six_where_carried)
    return one


def six_where_carried(byte):
    """6 for a sum of figures from 10 on, behind add_figure."""
    return 0 if byte >= UP_TO_THE_MARK else 6
