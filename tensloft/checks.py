"""Programs looked at, and programs that look at rows of bytes ([32], [33])."""

from tensloft.answers import answer_of
from tensloft.differences import order_of
from tensloft.errors import NoDeed, NoShape
from tensloft.figures import copy_half
from tensloft.keeping import RIGHT_HALVES, kept, places_of
from tensloft.machine import run
from tensloft.rows import MOST_CELLS
from tensloft.shapes import KINDS
from tensloft.sheets import Sheet


def sum_wanted(shape, one, other):
    """The answer and the mark of a sum."""
    return answer_of(shape, one + other)


def difference_wanted(shape, one, other):
    """The answer and the mark of a difference."""
    return answer_of(shape, one - other)


def compare_wanted(shape, one, other):
    """The answer and the mark of which is greater."""
    return ((order_of(one, other),), 0)


DEEDS = {"sum": sum_wanted, "difference": difference_wanted, "compare": compare_wanted}


def does(deed, kind, program):
    """Whether the program does the deed for all pairs of one figure; refuses with NoDeed, NoShape, NoTable, NoRow."""
    if deed not in DEEDS:
        raise NoDeed(deed)
    if kind not in KINDS:
        raise NoShape("kind")
    wanted_of = DEEDS[deed]
    shape = (kind, 1, "none", 0)
    for one in range(10):
        for other in range(10):
            cells = kept(shape, one) + kept(shape, other)
            behind, mark = run(program, cells + (0,) * (MOST_CELLS - len(cells)), 0)
            row, wanted = wanted_of(shape, one, other)
            if behind[:len(row)] != row or mark != wanted:
                return False
    return True


def check_rows(shape):
    """The program that tells the first place of a row of bytes at which a half is wrong."""
    places = places_of(shape)
    rules = {what: rule_of_halves(what) for what in places}
    sheet = Sheet()
    half, still_right, told = sheet.fresh(3)
    sheet.do("put", still_right, 1)
    sheet.do("put", told, 1)
    for place, what in enumerate(places):
        copy_half(sheet, half, 0, place)
        sheet.look(half, rules[what])
        sheet.do("and", still_right, half)
        sheet.do("add", told, still_right)
    sheet.look(told, nought_of_all(len(places)))
    sheet.do("copy", 0, told)
    sheet.do("mark", 0)
    return sheet.program()


def rule_of_halves(what):
    """The rule that tells 1 of a half that is right in such a place, else 0."""
    fewest, most = RIGHT_HALVES[what]

    def is_right_half(half):
        return 1 if fewest <= half <= most else 0

    return is_right_half


def nought_of_all(many):
    """The rule that tells 0 where so many halves were right one behind the other, else the byte."""
    def told_of(byte):
        return 0 if byte == many + 1 else byte

    return told_of
