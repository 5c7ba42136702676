"""Quotients and rests, and programs for them by tries ([25], [26])."""

from tensloft.differences import nine_less
from tensloft.errors import Nought, TooLong
from tensloft.figures import add_number, any_of, below_nought, keep_number, mark_where, noughts, read_number
from tensloft.figures import take_sign, tell_unlike, turn_where
from tensloft.keeping import bytes_of
from tensloft.sheets import Sheet

MOST_DIVIDED = 6
MOST_DIVIDING = 3
# What a figure is made of, the greatest first.
TRIES = (8, 4, 2, 1)


def parted(one, other):
    """The quotient and the rest, which has the sign of the first number; refuses with Nought."""
    if other == 0:
        raise Nought("by nought")
    quotient, rest = divmod(abs(one), abs(other))
    if (one < 0) != (other < 0):
        quotient = -quotient
    return (quotient, -rest if one < 0 else rest)


def quotient_rows(shape, figures):
    """The program for quotient and rest by an operand of so many figures; refuses with TooLong."""
    kind, own, sign, point = shape
    refuse_long_ones(own, figures)
    sheet = Sheet()
    behind = bytes_of(shape)
    second = (kind, figures, sign, 0)
    one = read_number(sheet, shape, 0, own + 1)
    # Eight times the divisor, and the sign of a try that was too much, take two cells more.
    other = read_number(sheet, second, behind, figures + 2)
    one_below = take_sign(sheet, one)
    other_below = take_sign(sheet, other)
    nought = any_of(sheet, other)
    sheet.look(nought, one_for_nought)
    quotient, rest = parted_by_tries(sheet, one[:own], other)
    turn_where(sheet, rest, one_below)
    keep_number(sheet, second, rest, behind)
    tell_unlike(sheet, one_below, other_below)
    turn_where(sheet, quotient, one_below)
    keep_number(sheet, shape, quotient)
    mark_too_where(sheet, nought)
    return sheet.program()


def refuse_long_ones(own, figures):
    """Refuses a dividend of too many figures, then a divisor of too many or none."""
    if own > MOST_DIVIDED:
        raise TooLong(own)
    if not 1 <= figures <= MOST_DIVIDING:
        raise TooLong(figures)


def parted_by_tries(sheet, figures, other):
    """The numbers of the quotient and the rest of a row of figures and a number above 0."""
    tries = tries_of(sheet, other)
    spare = sheet.fresh(len(other))
    quotient = noughts(sheet, len(figures) + 1)
    rest = noughts(sheet, len(other))
    for place in reversed(range(len(figures))):
        # The rest is less than the divisor, so its last cell is 0: it moves on by a
        # figure without a row.
        rest = [figures[place]] + rest[:-1]
        for tried in tries:
            sheet.do("or", quotient[place], times_taken(sheet, rest, tried, spare))
    return (quotient, rest)


def tries_of(sheet, other):
    """For each of TRIES: a cell that holds it, the number so many times, and nine less each of its figures."""
    worths = [other]
    for step in TRIES[1:]:
        worths.append(doubled(sheet, worths[-1]))
    tries = []
    for times, worth in zip(TRIES, worths[::-1]):
        nines = sheet.fresh(len(other))
        copy_cells(sheet, nines, worth)
        for cell in nines:
            sheet.look(cell, nine_less)
        tries.append((sheet.holding(times), worth, nines))
    return tries


def doubled(sheet, number):
    """The number of twice the number."""
    double = sheet.fresh(len(number))
    copy_cells(sheet, double, number)
    sheet.do("mark", 0)
    add_number(sheet, double, number)
    return double


def copy_cells(sheet, cells, others):
    """Copies cells one by one."""
    for cell, other in zip(cells, others):
        sheet.do("copy", cell, other)


def times_taken(sheet, rest, tried, spare):
    """Takes what is tried off the rest where it isn't above it; a cell that becomes how many times, else 0."""
    times, worth, nines = tried
    sheet.do("mark", 1)
    add_number(sheet, rest, nines)
    below = below_nought(sheet, rest)
    # Where that was too much it is given back.
    copy_cells(sheet, spare, worth)
    for cell in spare:
        sheet.do("or", cell, below)
        sheet.look(cell, figure_from_sixteen_on)
    sheet.do("mark", 0)
    add_number(sheet, rest, spare)
    sheet.look(below, fifteen_for_nought)
    sheet.do("and", below, times)
    return below


def mark_too_where(sheet, cell):
    """The mark becomes 1 where the cell isn't 0, else it stays."""
    either = noughts(sheet, 1)[0]
    # Twice 0 with the mark added.
    sheet.do("left", either)
    sheet.do("or", either, cell)
    mark_where(sheet, either)


def figure_from_sixteen_on(byte):
    """The figure where 16 was added to it, else 0."""
    return byte - 16 if byte >= 16 else 0


def fifteen_for_nought(byte):
    """15 for 0, else 0."""
    return 15 if byte == 0 else 0


def one_for_nought(byte):
    """1 for 0, else 0."""
    return 1 if byte == 0 else 0
