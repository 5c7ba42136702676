"""Programs for products ([24])."""

from tensloft.errors import TooLong
from tensloft.figures import keep_number, noughts, read_number, sixteen_times, take_sign, tell_unlike, turn_where
from tensloft.keeping import bytes_of
from tensloft.shapes import MOST_FIGURES
from tensloft.sheets import Sheet


def product_rows(shape, figures):
    """The program for the product with an operand of so many figures; refuses with TooLong."""
    kind, own, sign, point = shape
    if not 1 <= figures <= MOST_FIGURES - own:
        raise TooLong(figures)
    sheet = Sheet()
    # A cell more than figures shows the sign.
    one = read_number(sheet, shape, 0, own + 1)
    other = read_number(sheet, (kind, figures, sign, 0), bytes_of(shape), figures + 1)
    below = take_sign(sheet, one)
    tell_unlike(sheet, below, take_sign(sheet, other))
    product = product_of(sheet, one[:own], other[:figures])
    turn_where(sheet, product, below)
    keep_number(sheet, (kind, own + figures, sign, 0), product)
    return sheet.program()


def product_of(sheet, one, other):
    """The number of the product of two rows of figures; the first one is used up."""
    product = noughts(sheet, len(one) + len(other) + 1)
    units, tens = sheet.fresh(2)
    for at, figure in enumerate(one):
        sheet.look(figure, sixteen_times)
        for place, times in enumerate(other, start=at):
            sheet.do("copy", units, times)
            sheet.do("or", units, figure)
            sheet.do("copy", tens, units)
            sheet.look(units, units_of_product)
            sheet.look(tens, tens_of_product)
            # At most six figures of either sort, and a carry, come together in a
            # cell: far less than 256.
            sheet.do("add", product[place], units)
            sheet.do("add", product[place + 1], tens)
    carry_tens(sheet, product)
    return product


def carry_tens(sheet, number):
    """Leaves a figure in each cell of the number, and carries what is beyond it on."""
    tens = sheet.fresh_cell()
    for cell, ahead in zip(number, number[1:]):
        sheet.do("copy", tens, cell)
        sheet.look(tens, whole_tens)
        sheet.look(cell, last_figure)
        sheet.do("add", ahead, tens)


def units_of_product(byte):
    """The last figure of the product of the halves."""
    return byte // 16 * (byte % 16) % 10


def tens_of_product(byte):
    """The figure ahead of it."""
    return byte // 16 * (byte % 16) // 10


def whole_tens(byte):
    """How many tens a sum of figures has."""
    return byte // 10


def last_figure(byte):
    """What is left of it."""
    return byte % 10
