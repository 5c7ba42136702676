"""Programs tried on cells: the answer and the mark, whatever else stands in the cells."""

import random
import unittest

from oracle import answer, ends, sample, spellings
from plain_machine import is_program
from tensloft.machine import run


def good_numbers(shape):
    """Numbers that fit, for trials: the ends, about nought, all nines, many figures."""
    kind, n, sign, point = shape
    least, most = ends(n, sign)
    nines = 10 ** n - 1
    asked = sample(shape) + [nines, -nines, nines // 10, -(nines // 10), 5 * 10 ** (n - 1), most // 2, least // 2]
    return sorted({number for number in asked if least <= number <= most})


def few_numbers(shape):
    """Some of them, for trials with every pair of something else."""
    kind, n, sign, point = shape
    least, most = ends(n, sign)
    asked = (least, least + 1, -1, 0, 1, int("1234567890123"[:n]) // 3, -(int("9070503010204"[:n]) // 3), most - 1, most)
    return sorted({number for number in asked if least <= number <= most})


class ProgramTest(unittest.TestCase):
    """Trials of told programs; the bytes in all other cells are drawn, the same at each run of the tests."""

    def setUp(self):
        self.rng = random.Random(self.id())

    def assert_program(self, program):
        self.assertTrue(is_program(program))

    def spelled(self, shape, number):
        """A drawn one of the good rows that are read to the number."""
        return self.rng.choice(spellings(shape, number))

    def laid(self, operands, fill=None):
        """256 cells that begin with the operands' rows of bytes."""
        cells = tuple(byte for row in operands for byte in row)
        rest = 256 - len(cells)
        return cells + (tuple(self.rng.randbytes(rest)) if fill is None else (fill,) * rest)

    def assert_answer(self, program, operands, wanted, told=None):
        """The wanted row of bytes and mark, with drawn bytes and either mark at the beginning."""
        row, mark_behind = wanted
        for mark in (0, 1):
            cells, behind = run(program, self.laid(operands), mark)
            self.assertEqual((cells[:len(row)], behind), (row, mark_behind), (told, operands, mark))

    def assert_kept(self, program, operands, shape, number):
        self.assert_answer(program, operands, answer(shape, number), (shape, number))

    def assert_any_fill(self, program, operands, wanted):
        """The same with each of some bytes in all other cells."""
        row, mark_behind = wanted
        for fill in (0, 1, 15, 16, 153, 240, 255):
            for mark in (0, 1):
                cells, behind = run(program, self.laid(operands, fill), mark)
                self.assertEqual((cells[:len(row)], behind), (row, mark_behind), (operands, fill, mark))
