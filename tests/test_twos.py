"""Numbers by twos, and programs that lead there and back: [27], [28]."""

import itertools
import unittest

from oracle import KINDS, LENGTHS, all_shapes, answer, ends, kept_row, spellings
from plain_machine import plain_run
from tensloft.errors import TooLong
from tensloft.machine import run
from tensloft.twos import by_twos, from_twos, tens_rows, twos_rows
from trial import ProgramTest, few_numbers

BYTES = (1, 2, 3, 4)
NO_BYTES = (0, -1, -4, 5, 6, 8, 12, 256, 10 ** 39, -(10 ** 39))


def bounds(shape, many):
    """The least and the greatest number that fits so many bytes."""
    if shape[2] == "none":
        return 0, int("1" * 8 * many, 2)
    return -int("1" + "0" * (8 * many - 1), 2), int("1" * (8 * many - 1), 2)


def row_by_twos(number, many):
    """The row, by Python's own bytes of a number long enough and their end."""
    return tuple(number.to_bytes(24, "big", signed=True)[-many:])


def about(*numbers):
    return [number + beside for number in numbers for beside in (-1, 0, 1)]


class NumbersTest(unittest.TestCase):
    def numbers(self, shape, many):
        asked = about(0, *bounds(shape, many), 2 ** (8 * many), -(2 ** (8 * many)), 10 ** 39, -(10 ** 39))
        return asked + [10 ** 40 - 1, 1 - 10 ** 40, int("1234567890" * 4), -int("9070503010" * 4), 127, 128, 255, 256]

    def test_written_out(self):
        none, end, tens = ("packed", 3, "none", 0), ("spread", 3, "end", 0), ("packed", 3, "tens", 0)
        for shape in (none, end, tens):
            self.assertEqual(by_twos(shape, 258, 1), (2,))
            self.assertEqual(by_twos(shape, 258, 2), (1, 2))
            self.assertEqual(by_twos(shape, 258, 4), (0, 0, 1, 2))
            self.assertEqual(by_twos(shape, -1, 3), (255, 255, 255))
            self.assertEqual(by_twos(shape, -258, 2), (254, 254))
            self.assertEqual(from_twos(shape, (1, 2)), 258)
            self.assertEqual(from_twos(shape, (127, 255, 255, 255)), 2147483647)
        self.assertEqual(from_twos(none, (255,)), 255)
        self.assertEqual(from_twos(end, (255,)), -1)
        self.assertEqual(from_twos(tens, (128, 0, 0, 0)), -2147483648)
        self.assertEqual(from_twos(none, (128, 0, 0, 0)), 2147483648)

    def test_to_twos(self):
        for shape, many in itertools.product(all_shapes((1, 12)), BYTES):
            for number in self.numbers(shape, many):
                row = by_twos(shape, number, many)
                self.assertIs(type(row), tuple)
                self.assertTrue(all(type(byte) is int for byte in row))
                self.assertEqual(row, row_by_twos(number, many), (shape, number, many))

    def test_there_and_back_where_it_fits(self):
        for shape, many in itertools.product(all_shapes((1, 12)), BYTES):
            least, most = bounds(shape, many)
            for number in self.numbers(shape, many):
                back = from_twos(shape, by_twos(shape, number, many))
                self.assertIs(type(back), int)
                self.assertTrue(least <= back <= most)
                self.assertEqual((back - number) % 2 ** (8 * many), 0)
                self.assertEqual(back == number, least <= number <= most)

    def test_from_twos(self):
        for shape in all_shapes((1, 12)):
            for many in BYTES:
                for row in itertools.product((0, 1, 127, 128, 200, 255), repeat=many):
                    wanted = int.from_bytes(bytes(row), "big", signed=shape[2] != "none")
                    self.assertEqual(from_twos(shape, row), wanted, (shape, row))
            for byte in range(256):
                wanted = int.from_bytes(bytes((byte,)), "big", signed=shape[2] != "none")
                self.assertEqual(from_twos(shape, (byte,)), wanted)

    def test_too_long(self):
        for shape, many in itertools.product(all_shapes(), NO_BYTES):
            for function in (lambda: by_twos(shape, 5, many), lambda: by_twos(shape, -(10 ** 39), many),
                             lambda: twos_rows(shape, many), lambda: tens_rows(shape, many)):
                with self.assertRaises(TooLong) as held:
                    function()
                self.assertEqual(held.exception.number, many)
                self.assertIs(type(held.exception.number), int)


class ToTwosTest(ProgramTest):
    def wanted(self, shape, number, many):
        least, most = bounds(shape, many)
        return row_by_twos(number, many), 0 if least <= number <= most else 1

    def numbers(self, shape, many):
        kind, n, sign, point = shape
        least, most = ends(n, sign)
        asked = few_numbers(shape) + about(*bounds(shape, many), 2 ** (8 * many), -(2 ** (8 * many)))
        asked += about(2 ** (8 * many - 1), -(2 ** (8 * many - 1)), 3 * 2 ** (8 * many - 1))
        asked += [self.rng.randint(least, most) for step in range(4)]
        return sorted({number for number in asked if least <= number <= most})

    def test_written_out(self):
        for shape, many, row, wanted, mark in (
            (("packed", 3, "none", 0), 1, "02 55", "FF", 0),
            (("packed", 3, "none", 0), 1, "02 56", "00", 1),
            (("packed", 3, "none", 0), 2, "02 56", "01 00", 0),
            (("packed", 3, "end", 0), 1, "12 7C", "7F", 0),
            (("packed", 3, "end", 0), 1, "12 8F", "80", 1),
            (("packed", 3, "end", 0), 1, "12 8D", "80", 0),
            (("packed", 3, "end", 0), 1, "12 9B", "7F", 1),
            (("packed", 3, "end", 0), 4, "00 0B", "00 00 00 00", 0),
            (("packed", 3, "tens", 0), 2, "09 99", "FF FF", 0),
            (("packed", 3, "tens", 0), 1, "07 44", "00", 1),
            (("spread", 1, "tens", 0), 1, "F5", "FB", 0),
        ):
            wanted = (tuple(bytes.fromhex(wanted)), mark)
            self.assert_answer(twos_rows(shape, many), (tuple(bytes.fromhex(row)),), wanted, (shape, many))

    def test_every_shape_and_number_of_bytes(self):
        for shape, many in itertools.product(all_shapes(), BYTES):
            program = twos_rows(shape, many)
            self.assert_program(program)
            for number in self.numbers(shape, many):
                row = self.spelled(shape, number)
                self.assert_answer(program, (row,), self.wanted(shape, number, many), (shape, many, number))

    def test_every_number_of_few_figures(self):
        for shape, many in itertools.product(all_shapes((1, 2)), BYTES):
            program = twos_rows(shape, many)
            least, most = ends(*shape[1:3])
            for number in range(least, most + 1):
                cells, mark = plain_run(program, self.laid((self.spelled(shape, number),)), number % 2)
                self.assertEqual((cells[:many], mark), self.wanted(shape, number, many), (shape, number))

    def test_each_half_of_the_sign(self):
        for kind, n, many in itertools.product(KINDS, LENGTHS, BYTES):
            shape = (kind, n, "end", 0)
            program = twos_rows(shape, many)
            for number in (0, 5, -5, *ends(n, "end")):
                for row in spellings(shape, number):
                    self.assert_answer(program, (row,), self.wanted(shape, number, many))

    def test_any_bytes_elsewhere(self):
        for shape, many in itertools.product(all_shapes((1, 3, 12)), BYTES):
            for number in ends(*shape[1:3]):
                wanted = self.wanted(shape, number, many)
                self.assert_any_fill(twos_rows(shape, many), (kept_row(shape, number),), wanted)

    def test_the_point_has_no_part(self):
        for kind, n, sign, point in all_shapes((3,)):
            for point, many in itertools.product(range(n + 1), BYTES):
                shape = (kind, n, sign, point)
                for number in ends(n, sign):
                    row = self.spelled(shape, number)
                    self.assert_answer(twos_rows(shape, many), (row,), self.wanted(shape, number, many))


class ToTensTest(ProgramTest):
    def numbers(self, shape, many):
        kind, n, sign, point = shape
        least, most = bounds(shape, many)
        asked = about(0, *ends(n, sign), least, most, 10 ** n, -(10 ** n), 5 * 10 ** (n - 1), -(10 ** n) // 2)
        asked += about(2 ** (8 * many - 1), 2 ** (8 * many - 8), -(2 ** (8 * many - 8)))
        asked += [self.rng.randint(least, most) for step in range(4)]
        return sorted({number for number in asked if least <= number <= most})

    def test_written_out(self):
        for shape, many, row, wanted, mark in (
            (("packed", 3, "none", 0), 1, "FF", "02 55", 0),
            (("packed", 2, "none", 0), 1, "FF", "55", 1),
            (("packed", 3, "end", 0), 1, "FF", "00 1D", 0),
            (("packed", 3, "end", 0), 1, "80", "12 8D", 0),
            (("packed", 3, "end", 0), 1, "00", "00 0C", 0),
            (("packed", 2, "end", 0), 2, "FF 9C", "00 0C", 1),
            (("packed", 2, "end", 0), 2, "FF 9B", "00 1D", 1),
            (("packed", 2, "tens", 0), 1, "CE", "50", 0),
            (("packed", 2, "tens", 0), 1, "CD", "49", 1),
            (("packed", 2, "tens", 0), 1, "32", "50", 1),
            (("spread", 12, "none", 0), 4, "FF FF FF FF", "F0 F0 F4 F2 F9 F4 F9 F6 F7 F2 F9 F5", 0),
            (("spread", 10, "end", 0), 4, "80 00 00 00", "F2 F1 F4 F7 F4 F8 F3 F6 F4 D8", 0),
        ):
            wanted = (tuple(bytes.fromhex(wanted)), mark)
            self.assert_answer(tens_rows(shape, many), (tuple(bytes.fromhex(row)),), wanted, (shape, many))

    def test_every_shape_and_number_of_bytes(self):
        for shape, many in itertools.product(all_shapes(), BYTES):
            program = tens_rows(shape, many)
            self.assert_program(program)
            for number in self.numbers(shape, many):
                self.assert_kept(program, (row_by_twos(number, many),), shape, number)

    def test_every_byte(self):
        for shape in all_shapes((1, 2, 3)):
            program = tens_rows(shape, 1)
            for byte in range(256):
                number = int.from_bytes(bytes((byte,)), "big", signed=shape[2] != "none")
                cells, mark = plain_run(program, self.laid(((byte,),)), byte % 2)
                row, wanted = answer(shape, number)
                self.assertEqual((cells[:len(row)], mark), (row, wanted), (shape, byte))

    def test_any_bytes_elsewhere(self):
        for shape, many in itertools.product(all_shapes((1, 12)), BYTES):
            for number in bounds(shape, many):
                operands = (row_by_twos(number, many),)
                self.assert_any_fill(tens_rows(shape, many), operands, answer(shape, number))

    def test_the_point_has_no_part(self):
        for kind, n, sign, point in all_shapes((3,)):
            for point, many in itertools.product(range(n + 1), BYTES):
                shape = (kind, n, sign, point)
                for number in bounds(shape, many):
                    self.assert_kept(tens_rows(shape, many), (row_by_twos(number, many),), shape, number)

    def test_there_and_back(self):
        for shape, many in itertools.product(all_shapes(), BYTES):
            there, back = twos_rows(shape, many), tens_rows(shape, many)
            least, most = bounds(shape, many)
            for number in few_numbers(shape):
                cells, mark = run(there, self.laid((self.spelled(shape, number),)), 1)
                self.assertEqual(mark, 0 if least <= number <= most else 1)
                if mark == 0:
                    cells, mark = run(back, cells, mark)
                    row = kept_row(shape, number)
                    self.assertEqual((cells[:len(row)], mark), (row, 0), (shape, many, number))


if __name__ == "__main__":
    unittest.main()
