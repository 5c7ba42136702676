"""Told programs one behind the other, on the same cells: [5]."""

import itertools
import unittest

from oracle import KINDS, LENGTHS, SIGNS, all_shapes, answer, ends, fold, kept_row, read_text, halves_text
from tensloft.differences import compare_rows, difference_rows
from tensloft.machine import run
from tensloft.points import moved_rows
from tensloft.rekept import rekept_rows
from tensloft.sums import sum_rows
from trial import ProgramTest, few_numbers


class ChainTest(ProgramTest):
    def done(self, program, cells, mark, operand):
        """Runs a program with a second operand laid right behind the first one that stands in the cells."""
        many = len(operand)
        return run(program, cells[:many] + operand + cells[2 * many:], mark)

    def assert_row(self, shape, cells, mark, number):
        row, wanted = answer(shape, number)
        self.assertEqual((cells[:len(row)], mark), (row, wanted), (shape, number))

    def test_a_sum_and_then_the_difference(self):
        for shape in all_shapes():
            plus, minus = sum_rows(shape), difference_rows(shape)
            for one, other in itertools.product(few_numbers(shape), repeat=2):
                operand = self.spelled(shape, other)
                cells, mark = run(plus, self.laid((self.spelled(shape, one), operand)), 1)
                self.assert_row(shape, cells, mark, one + other)
                cells, mark = self.done(minus, cells, mark, operand)
                self.assert_row(shape, cells, mark, fold(shape, one + other) - other)
                if shape[2] != "end":
                    self.assertEqual(cells[:len(operand)], kept_row(shape, one))

    def test_packed_and_spread_sums_are_the_same(self):
        for n, sign in itertools.product(LENGTHS, SIGNS):
            packed, spread = ("packed", n, sign, 0), ("spread", n, sign, 0)
            for this, that in ((packed, spread), (spread, packed)):
                for one, other in itertools.product(few_numbers(this), repeat=2):
                    first, mark = run(sum_rows(this), self.laid((self.spelled(this, one), self.spelled(this, other))), 0)
                    second = self.laid((self.spelled(that, one), self.spelled(that, other)))
                    second, other_mark = run(sum_rows(that), second, 1)
                    self.assertEqual(mark, other_mark)
                    first, mark = run(rekept_rows(this, that), first, mark)
                    row = kept_row(that, fold(that, one + other))
                    self.assertEqual((first[:len(row)], mark), (row, 0))
                    self.assertEqual(second[:len(row)], row)

    def test_a_chain_of_sums_and_differences(self):
        for shape in all_shapes():
            deeds = ((sum_rows(shape), 1), (difference_rows(shape), -1))
            number = self.rng.randint(*ends(*shape[1:3]))
            cells, mark = self.laid((self.spelled(shape, number),)), 1
            for step in range(40):
                program, sign = self.rng.choice(deeds)
                other = self.rng.choice(few_numbers(shape) + [self.rng.randint(*ends(*shape[1:3]))])
                cells, mark = self.done(program, cells, mark, self.spelled(shape, other))
                self.assert_row(shape, cells, mark, number + sign * other)
                number = fold(shape, number + sign * other)

    def test_moved_there_and_back(self):
        for shape in all_shapes():
            n = shape[1]
            for number, by in itertools.product(few_numbers(shape), range(1, n + 1)):
                cells, mark = run(moved_rows(shape, by, "cut"), self.laid((self.spelled(shape, number),)), 0)
                self.assert_row(shape, cells, mark, number * 10 ** by)
                if mark == 0:
                    cells, mark = run(moved_rows(shape, -by, "up"), cells, mark)
                    self.assert_row(shape, cells, mark, number)

    def test_what_is_greater_tells_the_sign_of_the_difference(self):
        for kind, n in itertools.product(KINDS, LENGTHS):
            shape = (kind, n, "end", 0)
            for one, other in itertools.product(few_numbers(shape), repeat=2):
                cells = self.laid((self.spelled(shape, one), self.spelled(shape, other)))
                order = run(compare_rows(shape), cells, 1)[0][0]
                behind, mark = run(difference_rows(shape), cells, 1)
                if mark == 0:
                    many = len(kept_row(shape, 0))
                    number = read_text(shape, halves_text(behind[:many]))
                    self.assertEqual(order, (number > 0) - (number < 0) + 1)


if __name__ == "__main__":
    unittest.main()
