"""Programs for products: [24]."""

import itertools
import unittest

from oracle import KINDS, SIGNS, all_shapes, answer, ends, kept_row, spellings
from plain_machine import plain_run
from tensloft.errors import TooLong
from tensloft.products import product_rows
from trial import ProgramTest

PAIRS = [(n, m) for n in range(1, 12) for m in range(1, 13 - n)]


def numbers_for(shape):
    """Numbers of a shape: the ends, nought, one, nines, a figure and noughts, noughts within."""
    kind, n, sign, point = shape
    least, most = ends(n, sign)
    nines = int("9" * n)
    asked = [least, most, 0, 1, -1, nines, -nines, nines // 10, 4 * 10 ** (n - 1), -(7 * 10 ** (n - 1)), -(10 ** (n - 1))]
    asked += [int("10203040506070"[:n]), -int("40090807060504"[:n])]
    return sorted({number for number in asked if least <= number <= most})


class ProductTest(ProgramTest):
    def of_both(self, shape, figures):
        kind, n, sign, point = shape
        return (kind, figures, sign, 0), (kind, n + figures, sign, 0)

    def assert_product(self, program, shape, figures, one, other):
        second, third = self.of_both(shape, figures)
        operands = (self.spelled(shape, one), self.spelled(second, other))
        self.assert_answer(program, operands, (kept_row(third, one * other), 0), (shape, figures, one, other))

    def test_written_out(self):
        packed, spread = "packed", "spread"
        for shape, figures, one, other, wanted in (
            ((packed, 2, "none", 0), 2, "99", "99", "98 01"),
            ((packed, 1, "none", 0), 1, "07", "08", "56"),
            ((packed, 1, "none", 0), 2, "07", "80", "05 60"),
            ((packed, 2, "end", 0), 1, "01 2D", "3B", "03 6C"),
            ((packed, 2, "end", 0), 1, "01 2F", "3B", "03 6D"),
            ((packed, 2, "end", 0), 1, "00 0A", "3D", "00 0C"),
            ((packed, 2, "end", 0), 1, "00 0B", "0D", "00 0C"),
            ((packed, 2, "tens", 0), 2, "50", "50", "25 00"),
            ((packed, 2, "tens", 0), 2, "50", "49", "75 50"),
            ((packed, 1, "tens", 0), 1, "05", "05", "25"),
            ((packed, 1, "tens", 0), 1, "05", "04", "80"),
            ((packed, 1, "tens", 0), 1, "09", "09", "01"),
            ((spread, 1, "none", 0), 1, "F9", "F9", "F8 F1"),
            ((spread, 1, "end", 0), 1, "D9", "E9", "F8 D1"),
            ((spread, 2, "tens", 0), 1, "F9 F8", "F3", "F9 F9 F4"),
        ):
            wanted = (tuple(bytes.fromhex(wanted)), 0)
            operands = (tuple(bytes.fromhex(one)), tuple(bytes.fromhex(other)))
            self.assert_answer(product_rows(shape, figures), operands, wanted, (shape, figures))

    def test_every_kind_sign_and_pair_of_lengths(self):
        for kind, sign, (n, m) in itertools.product(KINDS, SIGNS, PAIRS):
            shape = (kind, n, sign, 0)
            program = product_rows(shape, m)
            second = self.of_both(shape, m)[0]
            for one, other in itertools.product(numbers_for(shape), numbers_for(second)):
                self.assert_product(program, shape, m, one, other)

    def test_drawn_numbers(self):
        for kind, sign, (n, m) in itertools.product(KINDS, SIGNS, PAIRS):
            shape = (kind, n, sign, 0)
            program = product_rows(shape, m)
            for step in range(12):
                one, other = self.rng.randint(*ends(n, sign)), self.rng.randint(*ends(m, sign))
                self.assert_product(program, shape, m, one, other)

    def test_it_is_a_program(self):
        for kind, sign, (n, m) in itertools.product(KINDS, SIGNS, PAIRS):
            self.assert_program(product_rows((kind, n, sign, 0), m))

    def test_one_figure_every_pair(self):
        for shape in all_shapes((1,)):
            program = product_rows(shape, 1)
            least, most = ends(1, shape[2])
            for one, other in itertools.product(range(least, most + 1), repeat=2):
                wanted = answer((shape[0], 2, shape[2], 0), one * other)
                self.assertEqual(wanted[1], 0)
                for operands in itertools.product(spellings(shape, one), spellings(shape, other)):
                    self.assert_answer(program, operands, wanted)

    def test_two_figures_every_pair(self):
        for shape in all_shapes((2,)):
            program = product_rows(shape, 2)
            least, most = ends(2, shape[2])
            third = (shape[0], 4, shape[2], 0)
            for one, other in itertools.product(range(least, most + 1, 3), range(least, most + 1, 2)):
                cells = self.laid((self.spelled(shape, one), self.spelled(shape, other)))
                cells, mark = plain_run(program, cells, (one + other) % 2)
                row = kept_row(third, one * other)
                self.assertEqual((cells[:len(row)], mark), (row, 0), (shape, one, other))

    def test_each_half_of_the_signs(self):
        for kind, (n, m) in itertools.product(KINDS, ((1, 1), (1, 2), (2, 1), (3, 4), (11, 1), (1, 11), (6, 6))):
            one, other = (kind, n, "end", 0), (kind, m, "end", 0)
            program = product_rows(one, m)
            for a, b in itertools.product((0, 3, -3, ends(n, "end")[0]), (0, 7, -7, ends(m, "end")[1])):
                wanted = (kept_row((kind, n + m, "end", 0), a * b), 0)
                for operands in itertools.product(spellings(one, a), spellings(other, b)):
                    self.assert_answer(program, operands, wanted)

    def test_any_bytes_elsewhere(self):
        for kind, sign, (n, m) in itertools.product(KINDS, SIGNS, ((1, 1), (2, 3), (6, 6), (11, 1), (1, 11))):
            shape = (kind, n, sign, 0)
            second, third = self.of_both(shape, m)
            for one, other in itertools.product(ends(n, sign), ends(m, sign)):
                operands = (kept_row(shape, one), kept_row(second, other))
                self.assert_any_fill(product_rows(shape, m), operands, (kept_row(third, one * other), 0))

    def test_the_point_has_no_part(self):
        for kind, n, sign, point in all_shapes((1, 3)):
            for point, m in itertools.product(range(n + 1), (1, 2, 9)):
                shape = (kind, n, sign, point)
                for one, other in itertools.product(ends(n, sign), ends(m, sign)):
                    self.assert_product(product_rows(shape, m), shape, m, one, other)

    def test_too_long(self):
        for shape in all_shapes():
            n = shape[1]
            for figures in (0, -1, -12, 13 - n, 14 - n, 12, 13, 24, 10 ** 39, -(10 ** 39)):
                if 1 <= figures <= 12 - n:
                    self.assert_program(product_rows(shape, figures))
                    continue
                with self.assertRaises(TooLong, msg=(shape, figures)) as held:
                    product_rows(shape, figures)
                self.assertEqual(held.exception.number, figures)
                self.assertIs(type(held.exception.number), int)


if __name__ == "__main__":
    unittest.main()
