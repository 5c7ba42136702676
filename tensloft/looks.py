"""Papers looked at ([37])."""

from tensloft.alike import same
from tensloft.papers import rounding, sixes, tries


def sixes_hold(figures, one, other, paper):
    """Whether the paper is that of the sum; refuses as sixes does."""
    return same(sixes(figures, one, other), paper)


def tries_hold(one, other, paper):
    """Whether the paper is that of the quotient; refuses as tries does."""
    return same(tries(one, other), paper)


def rounding_holds(number, by, rule, paper):
    """Whether the paper is that of what is lost; refuses as rounding does."""
    return same(rounding(number, by, rule), paper)
