"""Numbers by twos, and programs that lead there and back ([27], [28]).

A row in work is a list of cells, that of its rightmost byte first.
"""

from tensloft.errors import TooLong
from tensloft.figures import add_number, any_of, keep_number, mark_where, noughts, read_number
from tensloft.sheets import Sheet

MOST_BYTES = 4
# So many hold every number of twelve figures with its sign.
BYTES_IN_WORK = 6


def by_twos(shape, number, many):
    """The row of so many bytes that writes the number by 256; refuses with TooLong."""
    refuse_other_lengths(many)
    row = []
    for step in range(many):
        row.append(number % 256)
        number //= 256
    return tuple(row[::-1])


def from_twos(shape, row):
    """The number that a row of bytes writes."""
    number = 0
    around = 1
    for byte in row:
        number = 256 * number + byte
        around *= 256
    if is_signed(shape) and 2 * number >= around:
        return number - around
    return number


def refuse_other_lengths(many):
    """Refuses a number of bytes that is none."""
    if not 1 <= many <= MOST_BYTES:
        raise TooLong(many)


def is_signed(shape):
    """Whether the shape has numbers below 0."""
    return shape[2] != "none"


def twos_rows(shape, many):
    """The program that leads an operand to so many bytes; refuses with TooLong."""
    refuse_other_lengths(many)
    sheet = Sheet()
    # A cell more than figures shows the sign.
    row = row_of_number(sheet, read_number(sheet, shape, 0, shape[1] + 1))
    mark_beyond(sheet, shape, row[:many], row[many:])
    for at, cell in enumerate(row[:many][::-1]):
        sheet.do("copy", at, cell)
    return sheet.program()


def row_of_number(sheet, number):
    """The row in work of a number in work; one below 0 has a power of 256 added."""
    row = sheet.fresh(BYTES_IN_WORK)
    spare = sheet.fresh(BYTES_IN_WORK)
    for cell in row:
        sheet.do("copy", cell, number[-1])
        sheet.look(cell, all_twos_from_five_on)
    for figure in reversed(number[:-1]):
        five_times(sheet, row, spare)
        double(sheet, row)
        sheet.do("add", row[0], figure)
        carry_on(sheet, row[1:])
    return row


def five_times(sheet, row, spare):
    """The row becomes five times as much; the spare one, as long, is overwritten."""
    for cell, byte in zip(spare, row):
        sheet.do("copy", cell, byte)
    double(sheet, row)
    double(sheet, row)
    sheet.do("mark", 0)
    for cell, byte in zip(row, spare):
        sheet.do("addc", cell, byte)


def double(sheet, row):
    """The row becomes twice as much."""
    sheet.do("mark", 0)
    for cell in row:
        sheet.do("left", cell)


def carry_on(sheet, row):
    """Adds the mark to the row."""
    for cell in row:
        sheet.do("addc", cell, sheet.holding(0))


def mark_beyond(sheet, shape, inside, beyond):
    """The mark becomes 0 where the number fits the bytes inside, else 1; those beyond are used up."""
    if is_signed(shape):
        # Where it fits, those beyond are all 0, or all 255 if the first one inside
        # has its first two: with this two added just these become 0.
        first = sheet.fresh_cell()
        sheet.do("copy", first, inside[-1])
        sheet.do("left", first)
        carry_on(sheet, beyond)
    mark_where(sheet, any_of(sheet, beyond))


def tens_rows(shape, many):
    """The program that keeps what so many bytes write; refuses with TooLong."""
    refuse_other_lengths(many)
    sheet = Sheet()
    # A cell more than figures shows the sign.
    number = noughts(sheet, max(figures_of(many), shape[1]) + 1)
    if is_signed(shape):
        for cell in number:
            sheet.do("copy", cell, 0)
            sheet.look(cell, nine_for_first_two)
    for at in range(many):
        for step in range(8):
            # The next of the byte's twos goes into the mark, and with it into the number.
            sheet.do("left", at)
            add_number(sheet, number, number)
    keep_number(sheet, shape, number)
    return sheet.program()


def figures_of(many):
    """How many figures what so many bytes write may have."""
    most = 0
    for step in range(many):
        most = 256 * most + 255
    return len(str(most))


def all_twos_from_five_on(byte):
    """255 for the first figure of a number below 0."""
    return 255 if byte >= 5 else 0


def nine_for_first_two(byte):
    """9 for the first byte of a number below 0."""
    return 9 if byte >= 128 else 0
