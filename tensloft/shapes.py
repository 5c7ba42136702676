"""Shapes, and the numbers that fit them ([7], [8])."""

from tensloft.errors import NoShape
from tensloft.powers import ten_to

KINDS = ("packed", "spread")
SIGNS = ("none", "end", "tens")
MOST_FIGURES = 12


def shape(kind, figures, sign, point):
    """The shape of these four parts; refuses with NoShape."""
    if kind not in KINDS:
        raise NoShape("kind")
    if not 1 <= figures <= MOST_FIGURES:
        raise NoShape("figures")
    if sign not in SIGNS:
        raise NoShape("sign")
    if not 0 <= point <= figures:
        raise NoShape("point")
    return (kind, figures, sign, point)


def least_of(shape):
    """The least number that the shape keeps."""
    kind, figures, sign, point = shape
    if sign == "none":
        return 0
    if sign == "end":
        return 1 - ten_to(figures)
    return -5 * ten_to(figures - 1)


def most_of(shape):
    """The greatest number that the shape keeps."""
    kind, figures, sign, point = shape
    if sign == "tens":
        return 5 * ten_to(figures - 1) - 1
    return ten_to(figures) - 1


def folded(shape, number):
    """What is left of any whole number in the figures of the shape."""
    kind, figures, sign, point = shape
    around = ten_to(figures)
    if sign == "end":
        size = abs(number) % around
        return -size if number < 0 else size
    # Without a sign's half a shape keeps just 10 ** figures numbers, all those
    # from its least one on, so counting from there folds "none" and "tens" alike.
    least = least_of(shape)
    return least + (number - least) % around


def fits(shape, number):
    """Whether the shape keeps the number."""
    return least_of(shape) <= number <= most_of(shape)
