"""Programs for other ways of keeping ([21])."""

from tensloft.figures import keep_number, read_number
from tensloft.sheets import Sheet


def rekept_rows(one, other):
    """The program that keeps an operand of the first shape in the second one."""
    sheet = Sheet()
    # A cell more than figures shows the sign; the second shape may have more figures.
    number = read_number(sheet, one, 0, max(one[1], other[1]) + 1)
    keep_number(sheet, other, number)
    return sheet.program()
