"""Programs for differences and for which number is greater: [20]."""

import itertools
import unittest

from oracle import KINDS, LENGTHS, all_shapes, answer, ends, kept_row, spellings
from tensloft.differences import compare_rows, difference_rows
from trial import ProgramTest, few_numbers, good_numbers


def order(one, other):
    """The answer to a comparison, and its mark."""
    return ((0,) if one < other else (1,) if one == other else (2,)), 0


def pairs(shape):
    """Pairs of numbers of every sort: far apart, alike, one apart, with a difference at an end or beyond."""
    least, most = ends(shape[1], shape[2])
    numbers = good_numbers(shape)
    yield from itertools.product(numbers, few_numbers(shape))
    for one in numbers:
        for wanted in (0, 1, -1, 10, -10, least - 1, least, least + 1, most - 1, most, most + 1):
            if least <= one - wanted <= most:
                yield one, one - wanted


class DifferenceTest(ProgramTest):
    def assert_difference(self, program, shape, one, other):
        operands = (self.spelled(shape, one), self.spelled(shape, other))
        self.assert_kept(program, operands, shape, one - other)

    def test_written_out(self):
        for shape, one, other, row, mark in (
            (("packed", 3, "none", 0), "02 00", "00 01", "01 99", 0),
            (("packed", 3, "none", 0), "00 00", "00 01", "09 99", 1),
            (("packed", 3, "none", 0), "00 01", "09 99", "00 02", 1),
            (("packed", 3, "end", 0), "99 9D", "00 1C", "00 0C", 1),
            (("packed", 3, "end", 0), "99 9D", "00 2F", "00 1D", 1),
            (("packed", 3, "end", 0), "99 9A", "00 2B", "00 1C", 1),
            (("packed", 3, "end", 0), "00 5C", "00 7C", "00 2D", 0),
            (("packed", 3, "end", 0), "00 0B", "00 0C", "00 0C", 0),
            (("packed", 2, "tens", 0), "49", "99", "50", 1),
            (("packed", 2, "tens", 0), "50", "01", "49", 1),
            (("packed", 2, "tens", 0), "00", "50", "50", 1),
            (("packed", 2, "tens", 0), "00", "01", "99", 0),
            (("spread", 2, "none", 0), "F0 F0", "F0 F1", "F9 F9", 1),
            (("spread", 2, "end", 0), "F0 C1", "F9 C9", "F9 D8", 0),
            (("spread", 1, "end", 0), "B0", "F5", "D5", 0),
            (("spread", 2, "tens", 0), "F0 F0", "F0 F1", "F9 F9", 0),
        ):
            operands = (tuple(bytes.fromhex(one)), tuple(bytes.fromhex(other)))
            self.assert_answer(difference_rows(shape), operands, (tuple(bytes.fromhex(row)), mark))

    def test_it_is_a_program(self):
        for shape in all_shapes():
            self.assert_program(difference_rows(shape))

    def test_every_shape(self):
        for shape in all_shapes():
            program = difference_rows(shape)
            for one, other in pairs(shape):
                self.assert_difference(program, shape, one, other)

    def test_drawn_numbers(self):
        for shape in all_shapes():
            program = difference_rows(shape)
            for trial in range(30):
                one, other = self.rng.randint(*ends(*shape[1:3])), self.rng.randint(*ends(*shape[1:3]))
                self.assert_difference(program, shape, one, other)

    def test_one_figure_all_pairs(self):
        for shape in all_shapes((1,)):
            program = difference_rows(shape)
            least, most = ends(1, shape[2])
            for one, other in itertools.product(range(least, most + 1), repeat=2):
                for operands in itertools.product(spellings(shape, one), spellings(shape, other)):
                    self.assert_kept(program, operands, shape, one - other)

    def test_each_half_of_the_sign(self):
        for kind, n in itertools.product(KINDS, LENGTHS):
            shape = (kind, n, "end", 0)
            program = difference_rows(shape)
            most = ends(n, "end")[1]
            for one, other in itertools.product((0, 1, -1, most, -most), repeat=2):
                for operands in itertools.product(spellings(shape, one), spellings(shape, other)):
                    self.assert_kept(program, operands, shape, one - other)

    def test_any_bytes_elsewhere(self):
        for shape in all_shapes((1, 2, 7, 12)):
            program = difference_rows(shape)
            for one, other in itertools.product(few_numbers(shape), repeat=2):
                operands = (kept_row(shape, one), kept_row(shape, other))
                self.assert_any_fill(program, operands, answer(shape, one - other))

    def test_the_point_has_no_part(self):
        for kind, n, sign, point in all_shapes((1, 2, 5, 12)):
            for point in range(n + 1):
                shape = (kind, n, sign, point)
                for one, other in itertools.product((0, ends(n, sign)[0]), (1, ends(n, sign)[1])):
                    self.assert_difference(difference_rows(shape), shape, one, other)


class CompareTest(ProgramTest):
    def assert_order(self, program, shape, one, other):
        operands = (self.spelled(shape, one), self.spelled(shape, other))
        self.assert_answer(program, operands, order(one, other), (shape, one, other))

    def test_written_out(self):
        for shape, one, other, told in (
            (("packed", 3, "none", 0), "00 12", "00 13", 0),
            (("packed", 3, "none", 0), "09 99", "09 99", 1),
            (("packed", 3, "none", 0), "09 00", "00 99", 2),
            (("packed", 3, "end", 0), "00 0B", "00 0C", 1),
            (("packed", 3, "end", 0), "00 1D", "00 0D", 0),
            (("packed", 3, "end", 0), "99 9C", "99 9D", 2),
            (("packed", 3, "end", 0), "99 9B", "99 9D", 1),
            (("packed", 2, "tens", 0), "50", "49", 0),
            (("packed", 2, "tens", 0), "99", "00", 0),
            (("packed", 2, "tens", 0), "99", "98", 2),
            (("spread", 2, "none", 0), "F9 F9", "F0 F0", 2),
            (("spread", 2, "end", 0), "F1 D0", "F0 D9", 0),
            (("spread", 1, "end", 0), "D0", "A0", 1),
            (("spread", 1, "tens", 0), "F5", "F4", 0),
        ):
            operands = (tuple(bytes.fromhex(one)), tuple(bytes.fromhex(other)))
            self.assert_answer(compare_rows(shape), operands, ((told,), 0))

    def test_it_is_a_program(self):
        for shape in all_shapes():
            self.assert_program(compare_rows(shape))

    def test_every_shape(self):
        for shape in all_shapes():
            program = compare_rows(shape)
            for one, other in pairs(shape):
                self.assert_order(program, shape, one, other)

    def test_numbers_that_differ_in_one_figure(self):
        for shape in all_shapes():
            program = compare_rows(shape)
            least, most = ends(shape[1], shape[2])
            for one, place, less in itertools.product(few_numbers(shape), range(shape[1]), (1, -1)):
                other = one + less * 10 ** place
                if least <= other <= most:
                    self.assert_order(program, shape, one, other)

    def test_drawn_numbers(self):
        for shape in all_shapes():
            program = compare_rows(shape)
            for trial in range(20):
                one, other = self.rng.randint(*ends(*shape[1:3])), self.rng.randint(*ends(*shape[1:3]))
                self.assert_order(program, shape, one, other)
                self.assert_order(program, shape, one, one)

    def test_one_figure_all_pairs(self):
        for shape in all_shapes((1,)):
            program = compare_rows(shape)
            least, most = ends(1, shape[2])
            for one, other in itertools.product(range(least, most + 1), repeat=2):
                for operands in itertools.product(spellings(shape, one), spellings(shape, other)):
                    self.assert_answer(program, operands, order(one, other))

    def test_each_half_of_the_sign(self):
        for kind, n in itertools.product(KINDS, LENGTHS):
            shape = (kind, n, "end", 0)
            program = compare_rows(shape)
            most = ends(n, "end")[1]
            for one, other in itertools.product((0, 1, -1, most, -most), repeat=2):
                for operands in itertools.product(spellings(shape, one), spellings(shape, other)):
                    self.assert_answer(program, operands, order(one, other))

    def test_any_bytes_elsewhere(self):
        for shape in all_shapes((1, 2, 7, 12)):
            program = compare_rows(shape)
            for one, other in itertools.product(few_numbers(shape), repeat=2):
                self.assert_any_fill(program, (kept_row(shape, one), kept_row(shape, other)), order(one, other))

    def test_the_point_has_no_part(self):
        for kind, n, sign, point in all_shapes((1, 2, 5, 12)):
            for point in range(n + 1):
                shape = (kind, n, sign, point)
                for one, other in itertools.product((0, 1), (1, ends(n, sign)[0])):
                    self.assert_order(compare_rows(shape), shape, one, other)


if __name__ == "__main__":
    unittest.main()
