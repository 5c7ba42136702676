"""Programs for differences, and for which number is greater ([20])."""

from tensloft.figures import add_number, any_of, below_nought, keep_number, read_both
from tensloft.sheets import Sheet

LESS = 0
ALIKE = 1
GREATER = 2


def difference_rows(shape):
    """The program for the first operand less the second one, both of the shape."""
    sheet = Sheet()
    keep_number(sheet, shape, difference(sheet, shape))
    return sheet.program()


def compare_rows(shape):
    """The program that tells whether the first operand is less than, like or greater than the second one."""
    sheet = Sheet()
    number = difference(sheet, shape)
    order = any_of(sheet, number)
    sheet.do("or", order, below_nought(sheet, number))
    sheet.look(order, order_by_difference)
    sheet.do("copy", 0, order)
    sheet.do("mark", 0)
    return sheet.program()


def order_of(one, other):
    """The order of two numbers, as the program tells it."""
    if one < other:
        return LESS
    return ALIKE if one == other else GREATER


def difference(sheet, shape):
    """The number of the first operand less the second one."""
    one, other = read_both(sheet, shape)
    # Less a number is the same as with nine less each of its figures, and one, added,
    # but for a power of ten that is carried away.
    for cell in other:
        sheet.look(cell, nine_less)
    sheet.do("mark", 1)
    add_number(sheet, one, other)
    return one


def nine_less(byte):
    """Nine less a figure."""
    return (9 - byte) % 256


def order_by_difference(byte):
    """The order that a difference tells, whose figures together, and 16 if it is below 0, make this byte."""
    if byte >= 16:
        return LESS
    return ALIKE if byte == 0 else GREATER
