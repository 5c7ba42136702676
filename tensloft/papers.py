"""Papers: sixes added, tries of a quotient, what is lost by rounding ([34] to [36])."""

from tensloft.errors import NoFit, Nought, TooLong
from tensloft.points import refuse_other_rules, rounded
from tensloft.powers import ten_to
from tensloft.quotients import TRIES
from tensloft.shapes import MOST_FIGURES


def sixes(figures, one, other):
    """The paper of a sum put right by sixes; refuses with TooLong, then with NoFit."""
    if not 1 <= figures <= MOST_FIGURES:
        raise TooLong(figures)
    refuse_beyond(one, 0, ten_to(figures) - 1)
    refuse_beyond(other, 0, ten_to(figures) - 1)
    ones = figures_from_the_right(one, figures)
    others = figures_from_the_right(other, figures)
    carry = 0
    lines = []
    for a, b in zip(ones, others):
        line = line_of_sum(a, b, carry)
        lines.append(line)
        carry = line[-1]
    plain = great_number(ones) + great_number(others)
    added = great_number([0 if line[4] == "none" else 6 for line in lines])
    right = great_number([line[5] for line in lines])
    return (plain, added, right, carry, tuple(lines))


def refuse_beyond(number, least, most):
    """Refuses a number that isn't from the least to the most."""
    if not least <= number <= most:
        raise NoFit(number)


def figures_from_the_right(number, many):
    """So many figures of a number from 0 on, the rightmost one first."""
    figures = []
    for step in range(many):
        figures.append(number % 10)
        number //= 10
    return figures


def great_number(figures):
    """The number by sixteens of figures, the rightmost one first."""
    number = 0
    for figure in reversed(figures):
        number = 16 * number + figure
    return number


def line_of_sum(a, b, before):
    """The line of two figures and the carry that comes in."""
    total = a + b + before
    if total < 10:
        why = "none"
    elif total < 16:
        why = "nine"
    else:
        why = "carry"
    behind, figure = divmod(total, 10)
    return (a, b, before, total, why, figure, behind)


def tries(one, other):
    """The paper of a quotient by tries; refuses with Nought, then with NoFit."""
    if other == 0:
        raise Nought("by nought")
    most = ten_to(MOST_FIGURES) - 1
    refuse_beyond(one, 0, most)
    refuse_beyond(other, 1, most)
    lines = []
    left = 0
    for figure in str(one):
        line = line_of_tries(10 * left + int(figure), other)
        lines.append(line)
        left = line[-1]
    return tuple(lines)


def line_of_tries(ahead, other):
    """The line of what is ahead of the tries of one figure."""
    four = []
    figure = 0
    left = ahead
    for times in TRIES:
        worth = times * other
        taken = worth <= left
        four.append((times, worth, taken))
        if taken:
            figure += times
            left -= worth
    return (ahead, tuple(four), figure, left)


def rounding(number, by, rule):
    """The paper of what is lost by rounding; refuses with NoRule, then with TooLong, then with NoFit."""
    refuse_other_rules(rule)
    if not 1 <= by <= MOST_FIGURES:
        raise TooLong(by)
    most = ten_to(MOST_FIGURES) - 1
    refuse_beyond(number, -most, most)
    size, lost = divmod(abs(number), ten_to(by))
    first, others = divmod(lost, ten_to(by - 1))
    told = rounded(number, -by, rule)
    return (size, first, others > 0, size % 2 == 1, number < 0, abs(told) > size, told)
