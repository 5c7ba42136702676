"""Quotients and rests, and programs for them: [25], [26]."""

import itertools
import unittest

from oracle import KINDS, SIGNS, all_shapes, answer, ends, kept_row, spellings
from plain_machine import plain_run
from tensloft.errors import Nought, TooLong
from tensloft.machine import run
from tensloft.quotients import parted, quotient_rows
from trial import ProgramTest

LENGTHS_DIVIDED = range(1, 7)
LENGTHS_DIVIDING = range(1, 4)


def by_hand(one, other):
    """Quotient and rest by the figures of texts, the signs put on at last."""
    size, figures, rest = abs(other), "", 0
    for figure in str(abs(one)):
        rest = int(str(rest) + figure)
        many = 0
        while rest >= size:
            rest -= size
            many += 1
        figures += str(many)
    quotient = int(figures)
    return (quotient if (one >= 0) == (other > 0) else -quotient), (rest if one >= 0 else -rest)


class PartedTest(unittest.TestCase):
    def assert_parted(self, one, other):
        told = parted(one, other)
        self.assertIs(type(told), tuple)
        self.assertEqual([type(part) for part in told], [int, int])
        self.assertEqual(told, by_hand(one, other), (one, other))
        quotient, rest = told
        self.assertEqual(quotient * other + rest, one)
        self.assertLess(abs(rest), abs(other))
        self.assertTrue(rest == 0 or (rest < 0) == (one < 0))

    def test_written_out(self):
        self.assertEqual(parted(17, 5), (3, 2))
        self.assertEqual(parted(-17, 5), (-3, -2))
        self.assertEqual(parted(17, -5), (-3, 2))
        self.assertEqual(parted(-17, -5), (3, -2))
        self.assertEqual(parted(0, -5), (0, 0))
        self.assertEqual(parted(-15, 5), (-3, 0))
        self.assertEqual(parted(-4, 5), (0, -4))
        self.assertEqual(parted(4, -5), (0, 4))

    def test_small_numbers(self):
        for one, other in itertools.product(range(-45, 46), range(-23, 24)):
            if other != 0:
                self.assert_parted(one, other)

    def test_up_to_forty_figures(self):
        sizes = [10 ** k + d for k in (1, 2, 7, 19, 20, 38, 39) for d in (-1, 0, 1)]
        sizes += [10 ** 40 - 1, int("1234567890" * 4), int("7" * 40), int("90" * 20), 1, 3, 7]
        for one, other in itertools.product(sizes, repeat=2):
            for a, b in itertools.product((one, -one), (other, -other)):
                self.assert_parted(a, b)
            self.assert_parted(0, other)
            self.assert_parted(0, -other)

    def test_by_nought(self):
        for one in (0, 1, -1, 10, -17, 10 ** 40 - 1, -(10 ** 40 - 1)):
            with self.assertRaises(Nought):
                parted(one, 0)


def dividing_numbers(shape):
    """Divisors: the ends, small ones, nines, powers of ten, noughts within."""
    kind, m, sign, point = shape
    least, most = ends(m, sign)
    asked = [least, most, 1, -1, 2, -3, 7, 8, 9, 10 ** (m - 1), -(10 ** (m - 1)), int("101"[:m]), -int("37"[:m])]
    return sorted({number for number in asked if least <= number <= most and number != 0})


def divided_numbers(shape, other):
    """Numbers for a divisor: the ends, nought, nines, powers of ten, multiples of the divisor and one beside."""
    kind, n, sign, point = shape
    least, most = ends(n, sign)
    nines = int("9" * n)
    asked = [least, most, 0, 1, nines, 10 ** (n - 1), int("100203"[:n]), int("400009"[:n]), int("123456"[:n]) // 3]
    whole = most // abs(other) * abs(other)
    asked += [whole, whole - 1, whole + 1, abs(other), abs(other) - 1, 10 * abs(other) - 1]
    asked += [-number for number in asked]
    return sorted({number for number in asked if least <= number <= most})


class QuotientTest(ProgramTest):
    def wanted(self, shape, second, one, other):
        """The row of quotient and rest, and the mark."""
        quotient, rest = by_hand(one, other)
        row, mark = answer(shape, quotient)
        return row + kept_row(second, rest), mark

    def shapes(self):
        for kind, sign, n, m in itertools.product(KINDS, SIGNS, LENGTHS_DIVIDED, LENGTHS_DIVIDING):
            yield (kind, n, sign, 0), (kind, m, sign, 0)

    def test_written_out(self):
        packed, spread = "packed", "spread"
        for shape, figures, one, other, wanted, mark in (
            ((packed, 4, "none", 0), 2, "12 34", "56", "00 22 02", 0),
            ((packed, 1, "none", 0), 1, "07", "02", "03 01", 0),
            ((packed, 1, "none", 0), 3, "07", "09 99", "00 00 07", 0),
            ((packed, 6, "none", 0), 1, "99 99 99", "01", "99 99 99 00", 0),
            ((packed, 3, "end", 0), 1, "01 7D", "5C", "00 3D 2D", 0),
            ((packed, 3, "end", 0), 1, "01 7A", "5B", "00 3D 2C", 0),
            ((packed, 3, "end", 0), 1, "01 7B", "5D", "00 3C 2D", 0),
            ((packed, 3, "end", 0), 1, "00 0B", "5D", "00 0C 0C", 0),
            ((packed, 3, "end", 0), 1, "00 4B", "5D", "00 0C 4D", 0),
            ((packed, 3, "end", 0), 1, "01 5B", "5C", "00 3D 0C", 0),
            ((packed, 2, "tens", 0), 2, "83", "05", "97 98", 0),
            ((packed, 2, "tens", 0), 2, "50", "99", "50 00", 1),
            ((packed, 2, "tens", 0), 2, "50", "01", "50 00", 0),
            ((packed, 2, "tens", 0), 2, "51", "99", "49 00", 0),
            ((packed, 2, "tens", 0), 1, "50", "05", "10 00", 0),
            ((packed, 1, "tens", 0), 1, "05", "09", "05 00", 1),
            ((spread, 2, "none", 0), 1, "F1 F7", "F5", "F0 F3 F2", 0),
            ((spread, 2, "end", 0), 1, "F1 D7", "E5", "F0 D3 D2", 0),
            ((spread, 1, "tens", 0), 2, "F5", "F9 F9", "F5 F0 F0", 1),
        ):
            wanted = (tuple(bytes.fromhex(wanted)), mark)
            operands = (tuple(bytes.fromhex(one)), tuple(bytes.fromhex(other)))
            self.assert_answer(quotient_rows(shape, figures), operands, wanted, (shape, figures))

    def test_every_kind_sign_and_length(self):
        for shape, second in self.shapes():
            program = quotient_rows(shape, second[1])
            for other in dividing_numbers(second):
                for one in divided_numbers(shape, other):
                    operands = (self.spelled(shape, one), self.spelled(second, other))
                    self.assert_answer(program, operands, self.wanted(shape, second, one, other), (shape, one, other))

    def test_drawn_numbers(self):
        for shape, second in self.shapes():
            program = quotient_rows(shape, second[1])
            for step in range(25):
                one, other = self.rng.randint(*ends(*shape[1:3])), self.rng.randint(*ends(*second[1:3]))
                if other != 0:
                    operands = (self.spelled(shape, one), self.spelled(second, other))
                    self.assert_answer(program, operands, self.wanted(shape, second, one, other), (shape, one, other))

    def test_it_is_a_program(self):
        for shape, second in self.shapes():
            self.assert_program(quotient_rows(shape, second[1]))

    def test_one_figure_every_pair(self):
        for shape in all_shapes((1,)):
            program = quotient_rows(shape, 1)
            least, most = ends(1, shape[2])
            for one, other in itertools.product(range(least, most + 1), repeat=2):
                for operands in itertools.product(spellings(shape, one), spellings(shape, other)):
                    if other == 0:
                        self.assert_answer(program, operands, ((), 1))
                    else:
                        self.assert_answer(program, operands, self.wanted(shape, shape, one, other))

    def test_two_figures_many_pairs(self):
        for shape in all_shapes((2,)):
            program = quotient_rows(shape, 2)
            least, most = ends(2, shape[2])
            for one, other in itertools.product(range(least, most + 1, 3), range(least, most + 1, 4)):
                if other != 0:
                    cells = self.laid((self.spelled(shape, one), self.spelled(shape, other)))
                    cells, mark = run(program, cells, (one + other) % 2)
                    row, wanted = self.wanted(shape, shape, one, other)
                    self.assertEqual((cells[:len(row)], mark), (row, wanted), (shape, one, other))

    def test_on_the_second_machine(self):
        for shape, second in self.shapes():
            one, other = ends(*shape[1:3])[0], ends(*second[1:3])[1]
            cells = self.laid((self.spelled(shape, one), self.spelled(second, other)))
            cells, mark = plain_run(quotient_rows(shape, second[1]), cells, 1)
            row, wanted = self.wanted(shape, second, one, other)
            self.assertEqual((cells[:len(row)], mark), (row, wanted), (shape, second))

    def test_the_least_by_minus_one_alone_goes_beyond(self):
        for kind, n, m in itertools.product(KINDS, LENGTHS_DIVIDED, LENGTHS_DIVIDING):
            shape, second = (kind, n, "tens", 0), (kind, m, "tens", 0)
            program = quotient_rows(shape, m)
            least, most = ends(n, "tens")
            for one, other in itertools.product((least, least + 1, most), (-2, -1, 1, 2)):
                operands = (kept_row(shape, one), kept_row(second, other))
                row, mark = self.wanted(shape, second, one, other)
                self.assertEqual(mark, 1 if (one, other) == (least, -1) else 0)
                if (one, other) == (least, -1):
                    self.assertEqual(row, kept_row(shape, least) + kept_row(second, 0))
                self.assert_answer(program, operands, (row, mark), (shape, one, other))

    def test_by_nought(self):
        for shape, second in self.shapes():
            program = quotient_rows(shape, second[1])
            for one in sorted({*ends(*shape[1:3]), 0, 1, int("123456"[:shape[1]]) // 3}):
                for operands in itertools.product(spellings(shape, one), spellings(second, 0)):
                    self.assert_answer(program, operands, ((), 1), (shape, second, one))
                    self.assert_any_fill(program, operands, ((), 1))

    def test_each_half_of_the_signs(self):
        for kind, n, m in itertools.product(KINDS, (1, 2, 6), LENGTHS_DIVIDING):
            shape, second = (kind, n, "end", 0), (kind, m, "end", 0)
            program = quotient_rows(shape, m)
            for one, other in itertools.product((0, 9, -9), (4, -4)):
                for operands in itertools.product(spellings(shape, one), spellings(second, other)):
                    self.assert_answer(program, operands, self.wanted(shape, second, one, other))

    def test_any_bytes_elsewhere(self):
        for shape, second in self.shapes():
            if shape[1] in (1, 6):
                program = quotient_rows(shape, second[1])
                for one, other in itertools.product(ends(*shape[1:3]), (ends(*second[1:3])[1], 1)):
                    operands = (kept_row(shape, one), kept_row(second, other))
                    self.assert_any_fill(program, operands, self.wanted(shape, second, one, other))

    def test_the_point_has_no_part(self):
        for kind, n, sign, point in all_shapes((1, 3)):
            for point, m in itertools.product(range(n + 1), LENGTHS_DIVIDING):
                shape, second = (kind, n, sign, point), (kind, m, sign, 0)
                for one, other in itertools.product(ends(n, sign), (3, 1)):
                    operands = (self.spelled(shape, one), self.spelled(second, other))
                    self.assert_answer(quotient_rows(shape, m), operands, self.wanted(shape, second, one, other))

    def test_too_long(self):
        for shape in all_shapes():
            n = shape[1]
            for figures in (0, -1, 1, 2, 3, 4, 5, 12, 13, 10 ** 39, -(10 ** 39)):
                if n <= 6 and 1 <= figures <= 3:
                    continue
                with self.assertRaises(TooLong, msg=(shape, figures)) as held:
                    quotient_rows(shape, figures)
                self.assertEqual(held.exception.number, n if n > 6 else figures)
                self.assertIs(type(held.exception.number), int)


if __name__ == "__main__":
    unittest.main()
