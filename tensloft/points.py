"""Numbers moved by tens and rounded, and programs for it ([22], [23], [36])."""

from tensloft.errors import NoRule, TooLong
from tensloft.figures import add_mark, any_of, keep_number, mark_where, noughts, read_number, take_sign, turn_where
from tensloft.powers import ten_to
from tensloft.sheets import Sheet

RULES = ("cut", "up", "half", "even", "floor", "ceil")

# How much of a whole is lost.
NOTHING = 0
BELOW_A_HALF = 1
A_HALF = 2
ABOVE_A_HALF = 3

# What a table of a rule is looked up by: the first figure that is lost, and these.
# The first of them is what take_sign tells.
BELOW_NOUGHT = 16
MORE_LOST = 32
ODD = 64


def rounded(number, by, rule):
    """The number moved by so many tens and rounded by the rule; refuses with NoRule."""
    refuse_other_rules(rule)
    if by >= 0:
        return number * ten_to(by)
    whole = ten_to(-by)
    size, rest = divmod(abs(number), whole)
    if goes_up(rule, share_of(rest, whole), size % 2 == 1, number < 0):
        size += 1
    return -size if number < 0 else size


def refuse_other_rules(rule):
    """Refuses a rule that is none."""
    if rule not in RULES:
        raise NoRule(rule)


def share_of(rest, whole):
    """How much of the whole the rest is, by halves."""
    if rest == 0:
        return NOTHING
    if 2 * rest < whole:
        return BELOW_A_HALF
    return A_HALF if 2 * rest == whole else ABOVE_A_HALF


def goes_up(rule, share, odd, below):
    """Whether the rule makes a size one greater of which a share is lost."""
    if rule == "up":
        return share != NOTHING
    if rule == "half":
        return share >= A_HALF
    if rule == "even":
        return share == ABOVE_A_HALF or (share == A_HALF and odd)
    if rule == "floor":
        return below and share != NOTHING
    if rule == "ceil":
        return not below and share != NOTHING
    return False


def moved_rows(shape, by, rule):
    """The program that moves an operand by so many tens and rounds it; refuses with NoRule, then with TooLong."""
    kind, figures, sign, point = shape
    refuse_other_rules(rule)
    if not -figures <= by <= figures:
        raise TooLong(by)
    sheet = Sheet()
    # A cell more than figures shows the sign.
    number = read_number(sheet, shape, 0, figures + 1)
    if by >= 0:
        number = noughts(sheet, by) + number
    else:
        number = rounded_off(sheet, number, -by, rule)
    keep_number(sheet, shape, number)
    return sheet.program()


def rounded_off(sheet, number, many, rule):
    """The number without its last figures, so many, rounded by the rule."""
    below = take_sign(sheet, number)
    size = number[many:]
    mark_one_more(sheet, number[:many], size, below, rule)
    add_mark(sheet, size)
    size = size + noughts(sheet, many)
    turn_where(sheet, size, below)
    return size


def mark_one_more(sheet, lost, size, below, rule):
    """The mark becomes 1 where the rule makes the size one greater, else 0."""
    def one_more(byte):
        return 1 if table_goes_up(rule, byte) else 0

    more = any_of(sheet, lost[:-1])
    sheet.look(more, more_lost)
    odd = sheet.fresh_cell()
    sheet.do("copy", odd, size[0])
    sheet.look(odd, odd_size)
    # Figures that are lost are not asked for again.
    told = lost[-1]
    for cell in (below, more, odd):
        sheet.do("or", told, cell)
    sheet.look(told, one_more)
    mark_where(sheet, told)


def table_goes_up(rule, byte):
    """Whether the rule makes a size one greater, told by what its table is looked up by."""
    # Whether more is lost behind the first figure counts as half a figure: it can't
    # make up a half, but tells nothing from something and a half from more.
    rest = 2 * (byte % 16) + byte // MORE_LOST % 2
    return goes_up(rule, share_of(rest, 20), byte // ODD % 2 == 1, byte // BELOW_NOUGHT % 2 == 1)


def more_lost(byte):
    """MORE_LOST where any of the figures behind the first one lost isn't 0."""
    return 0 if byte == 0 else MORE_LOST


def odd_size(byte):
    """ODD where the last figure of a size is odd."""
    return byte % 2 * ODD
