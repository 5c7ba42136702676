"""Answers that are kept in a shape ([17])."""

from tensloft.keeping import kept
from tensloft.shapes import fits, folded


def answer_of(shape, number):
    """The row of bytes of the number, folded, and the mark, 0 where the number fits, else 1."""
    return (kept(shape, folded(shape, number)), 0 if fits(shape, number) else 1)
