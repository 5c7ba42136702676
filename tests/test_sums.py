"""Programs for sums: [17] to [19]."""

import itertools
import unittest

from oracle import KINDS, LENGTHS, SIGNS, all_shapes, answer, ends, kept_row, spellings
from plain_machine import is_program
from tensloft.errors import TooLong
from tensloft.machine import run
from tensloft.sums import sum_parts, sum_rows
from trial import ProgramTest, few_numbers, good_numbers


def pairs_at_the_ends(shape):
    """Pairs whose sum is at an end of the range, or one beyond it or before it."""
    least, most = ends(shape[1], shape[2])
    for one in good_numbers(shape):
        for wanted in (least - 1, least, least + 1, most - 1, most, most + 1):
            if least <= wanted - one <= most:
                yield one, wanted - one


class SumTest(ProgramTest):
    def assert_sum(self, program, shape, one, other):
        operands = (self.spelled(shape, one), self.spelled(shape, other))
        self.assert_kept(program, operands, shape, one + other)

    def test_written_out(self):
        for shape, one, other, row, mark in (
            (("packed", 3, "none", 0), "01 99", "00 01", "02 00", 0),
            (("packed", 3, "none", 0), "09 99", "00 01", "00 00", 1),
            (("packed", 2, "none", 0), "99", "99", "98", 1),
            (("packed", 3, "end", 0), "99 9C", "00 1C", "00 0C", 1),
            (("packed", 3, "end", 0), "99 9D", "00 1B", "00 0C", 1),
            (("packed", 3, "end", 0), "99 9D", "00 2D", "00 1D", 1),
            (("packed", 3, "end", 0), "00 0B", "00 0D", "00 0C", 0),
            (("packed", 2, "end", 0), "01 2F", "01 3D", "00 1D", 0),
            (("packed", 2, "tens", 0), "49", "01", "50", 1),
            (("packed", 2, "tens", 0), "50", "99", "49", 1),
            (("packed", 2, "tens", 0), "99", "01", "00", 0),
            (("spread", 2, "none", 0), "F9 F9", "F0 F1", "F0 F0", 1),
            (("spread", 2, "end", 0), "F9 B9", "F0 A1", "F9 D8", 0),
            (("spread", 1, "end", 0), "B5", "E5", "C0", 0),
            (("spread", 2, "tens", 0), "F9 F8", "F0 F1", "F9 F9", 0),
        ):
            operands = (tuple(bytes.fromhex(one)), tuple(bytes.fromhex(other)))
            self.assert_answer(sum_rows(shape), operands, (tuple(bytes.fromhex(row)), mark))

    def test_it_is_a_program(self):
        for shape in all_shapes():
            self.assert_program(sum_rows(shape))

    def test_every_shape(self):
        for shape in all_shapes():
            program = sum_rows(shape)
            numbers = good_numbers(shape)
            for one, other in itertools.product(numbers, few_numbers(shape)):
                self.assert_sum(program, shape, one, other)

    def test_sums_at_the_ends_and_beyond(self):
        for shape in all_shapes():
            program = sum_rows(shape)
            for one, other in pairs_at_the_ends(shape):
                self.assert_sum(program, shape, one, other)

    def test_drawn_numbers(self):
        for shape in all_shapes():
            program = sum_rows(shape)
            for trial in range(30):
                one, other = self.rng.randint(*ends(*shape[1:3])), self.rng.randint(*ends(*shape[1:3]))
                self.assert_sum(program, shape, one, other)

    def test_one_figure_all_pairs(self):
        for shape in all_shapes((1,)):
            program = sum_rows(shape)
            least, most = ends(1, shape[2])
            for one, other in itertools.product(range(least, most + 1), repeat=2):
                for operands in itertools.product(spellings(shape, one), spellings(shape, other)):
                    self.assert_kept(program, operands, shape, one + other)

    def test_two_figures_all_pairs(self):
        for kind, sign in itertools.product(KINDS, SIGNS):
            shape = (kind, 2, sign, 0)
            program = sum_rows(shape)
            least, most = ends(2, sign)
            for one, other in itertools.product(range(least, most + 1, 1 + (sign == "end") * 6), repeat=2):
                cells = self.laid((self.spelled(shape, one), self.spelled(shape, other)))
                cells, mark = run(program, cells, one % 2)
                row, wanted = answer(shape, one + other)
                self.assertEqual((cells[:len(row)], mark), (row, wanted))

    def test_each_half_of_the_sign(self):
        for kind, n in itertools.product(KINDS, LENGTHS):
            shape = (kind, n, "end", 0)
            program = sum_rows(shape)
            most = ends(n, "end")[1]
            for one, other in itertools.product((0, 1, -1, most, -most), repeat=2):
                for operands in itertools.product(spellings(shape, one), spellings(shape, other)):
                    self.assert_kept(program, operands, shape, one + other)

    def test_any_bytes_elsewhere(self):
        for shape in all_shapes((1, 2, 7, 12)):
            program = sum_rows(shape)
            for one, other in itertools.product(few_numbers(shape), repeat=2):
                operands = (kept_row(shape, one), kept_row(shape, other))
                self.assert_any_fill(program, operands, answer(shape, one + other))

    def test_the_point_has_no_part(self):
        for kind, n, sign, point in all_shapes((1, 2, 5, 12)):
            for point in range(n + 1):
                shape = (kind, n, sign, point)
                program = sum_rows(shape)
                self.assert_program(program)
                for one, other in itertools.product((0, ends(n, sign)[0]), (1, ends(n, sign)[1])):
                    self.assert_sum(program, shape, one, other)


class PartsTest(ProgramTest):
    def plain(self, one, other):
        """The plain sum of two rows of bytes, and its mark."""
        many = len(one)
        total = int.from_bytes(bytes(one), "big") + int.from_bytes(bytes(other), "big")
        return tuple((total % 256 ** many).to_bytes(many, "big")), total // 256 ** many

    def assert_parts(self, parts, figures, one, other):
        shape = ("packed", figures, "none", 0)
        operands = (kept_row(shape, one), kept_row(shape, other))
        many = len(operands[0])
        for mark in (0, 1):
            cells, behind = run(parts[0], self.laid(operands), mark)
            self.assertEqual((cells[:many], behind), self.plain(*operands), (figures, one, other))
            cells, behind = run(parts[1], cells, behind)
            self.assertEqual((cells[:many], behind), answer(shape, one + other), (figures, one, other))

    def test_written_out(self):
        for figures, one, other, plain, mark in (
            (2, 19, 28, "41", 0), (2, 99, 1, "9A", 0), (2, 99, 99, "32", 1), (1, 9, 9, "12", 0), (3, 999, 1, "09 9A", 0),
            (4, 9999, 9999, "33 32", 1), (3, 999, 999, "13 32", 0),
        ):
            shape = ("packed", figures, "none", 0)
            cells = self.laid((kept_row(shape, one), kept_row(shape, other)))
            cells, behind = run(sum_parts(figures)[0], cells, 1)
            wanted = tuple(bytes.fromhex(plain))
            self.assertEqual((cells[:len(wanted)], behind), (wanted, mark))
            self.assert_parts(sum_parts(figures), figures, one, other)

    def test_two_programs(self):
        for figures in LENGTHS:
            parts = sum_parts(figures)
            self.assertIs(type(parts), tuple)
            self.assertEqual(len(parts), 2)
            self.assertTrue(is_program(parts[0]))
            self.assertTrue(is_program(parts[1]))

    def test_every_length(self):
        for figures in LENGTHS:
            parts = sum_parts(figures)
            shape = ("packed", figures, "none", 0)
            for one, other in itertools.product(good_numbers(shape), repeat=2):
                self.assert_parts(parts, figures, one, other)
            for one, other in pairs_at_the_ends(shape):
                self.assert_parts(parts, figures, one, other)
            for trial in range(60):
                one, other = self.rng.randrange(10 ** figures), self.rng.randrange(10 ** figures)
                self.assert_parts(parts, figures, one, other)

    def test_all_nines_and_one(self):
        for figures in LENGTHS:
            nines = 10 ** figures - 1
            for one, other in ((nines, 1), (1, nines), (nines, nines), (nines, 0)):
                self.assert_parts(sum_parts(figures), figures, one, other)

    def test_one_and_two_figures_all_pairs(self):
        for figures in (1, 2):
            parts = sum_parts(figures)
            for one, other in itertools.product(range(10 ** figures), repeat=2):
                self.assert_parts(parts, figures, one, other)

    def test_too_long(self):
        for figures in (0, 13, -1, -12, 14, 99, 10 ** 39, -(10 ** 39)):
            with self.assertRaises(TooLong) as held:
                sum_parts(figures)
            self.assertEqual(held.exception.number, figures)
            self.assertIs(type(held.exception.number), int)


if __name__ == "__main__":
    unittest.main()
