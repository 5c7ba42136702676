"""Told programs one behind the other, on the same cells: [5]."""

import itertools
import unittest

from oracle import KINDS, LENGTHS, MODES, SIGNS, all_shapes, answer, ends, fold, halves_text, kept_row, moved, read_text
from tensloft.checks import check_rows
from tensloft.differences import compare_rows, difference_rows
from tensloft.machine import run
from tensloft.points import moved_rows
from tensloft.products import product_rows
from tensloft.quotients import parted, quotient_rows
from tensloft.rekept import rekept_rows
from tensloft.sums import sum_parts, sum_rows
from tensloft.twos import tens_rows, twos_rows
from trial import ProgramTest, few_numbers


class ChainTest(ProgramTest):
    def done(self, program, cells, mark, operand):
        """Runs a program with a second operand laid right behind the first one that stands in the cells."""
        many = len(operand)
        return run(program, cells[:many] + operand + cells[2 * many:], mark)

    def assert_row(self, shape, cells, mark, number):
        row, wanted = answer(shape, number)
        self.assertEqual((cells[:len(row)], mark), (row, wanted), (shape, number))

    def test_a_sum_and_then_the_difference(self):
        for shape in all_shapes():
            plus, minus = sum_rows(shape), difference_rows(shape)
            for one, other in itertools.product(few_numbers(shape), repeat=2):
                operand = self.spelled(shape, other)
                cells, mark = run(plus, self.laid((self.spelled(shape, one), operand)), 1)
                self.assert_row(shape, cells, mark, one + other)
                cells, mark = self.done(minus, cells, mark, operand)
                self.assert_row(shape, cells, mark, fold(shape, one + other) - other)
                if shape[2] != "end":
                    self.assertEqual(cells[:len(operand)], kept_row(shape, one))

    def test_packed_and_spread_sums_are_the_same(self):
        for n, sign in itertools.product(LENGTHS, SIGNS):
            packed, spread = ("packed", n, sign, 0), ("spread", n, sign, 0)
            for this, that in ((packed, spread), (spread, packed)):
                for one, other in itertools.product(few_numbers(this), repeat=2):
                    first, mark = run(sum_rows(this), self.laid((self.spelled(this, one), self.spelled(this, other))), 0)
                    second = self.laid((self.spelled(that, one), self.spelled(that, other)))
                    second, other_mark = run(sum_rows(that), second, 1)
                    self.assertEqual(mark, other_mark)
                    first, mark = run(rekept_rows(this, that), first, mark)
                    row = kept_row(that, fold(that, one + other))
                    self.assertEqual((first[:len(row)], mark), (row, 0))
                    self.assertEqual(second[:len(row)], row)

    def test_a_chain_of_sums_and_differences(self):
        for shape in all_shapes():
            deeds = ((sum_rows(shape), 1), (difference_rows(shape), -1))
            number = self.rng.randint(*ends(*shape[1:3]))
            cells, mark = self.laid((self.spelled(shape, number),)), 1
            for step in range(40):
                program, sign = self.rng.choice(deeds)
                other = self.rng.choice(few_numbers(shape) + [self.rng.randint(*ends(*shape[1:3]))])
                cells, mark = self.done(program, cells, mark, self.spelled(shape, other))
                self.assert_row(shape, cells, mark, number + sign * other)
                number = fold(shape, number + sign * other)

    def test_moved_there_and_back(self):
        for shape in all_shapes():
            n = shape[1]
            for number, by in itertools.product(few_numbers(shape), range(1, n + 1)):
                cells, mark = run(moved_rows(shape, by, "cut"), self.laid((self.spelled(shape, number),)), 0)
                self.assert_row(shape, cells, mark, number * 10 ** by)
                if mark == 0:
                    cells, mark = run(moved_rows(shape, -by, "up"), cells, mark)
                    self.assert_row(shape, cells, mark, number)

    def test_what_is_greater_tells_the_sign_of_the_difference(self):
        for kind, n in itertools.product(KINDS, LENGTHS):
            shape = (kind, n, "end", 0)
            for one, other in itertools.product(few_numbers(shape), repeat=2):
                cells = self.laid((self.spelled(shape, one), self.spelled(shape, other)))
                order = run(compare_rows(shape), cells, 1)[0][0]
                behind, mark = run(difference_rows(shape), cells, 1)
                if mark == 0:
                    many = len(kept_row(shape, 0))
                    number = read_text(shape, halves_text(behind[:many]))
                    self.assertEqual(order, (number > 0) - (number < 0) + 1)

    def test_a_product_and_then_the_quotient(self):
        for kind, sign, n, m in itertools.product(KINDS, SIGNS, range(1, 4), range(1, 4)):
            one, other, both = (kind, n, sign, 0), (kind, m, sign, 0), (kind, n + m, sign, 0)
            times, over = product_rows(one, m), quotient_rows(both, m)
            for first, second in itertools.product(few_numbers(one), few_numbers(other)):
                operand = self.spelled(other, second)
                cells, mark = run(times, self.laid((self.spelled(one, first), operand)), 1)
                row = kept_row(both, first * second)
                self.assertEqual((cells[:len(row)], mark), (row, 0))
                cells, mark = run(over, cells[:len(row)] + operand + cells[len(row) + len(operand):], mark)
                if second == 0:
                    self.assertEqual(mark, 1)
                else:
                    wanted = kept_row(both, first) + kept_row(other, 0)
                    self.assertEqual((cells[:len(wanted)], mark), (wanted, 0), (one, other, first, second))

    def test_every_answer_is_a_good_row(self):
        for shape in all_shapes((1, 2, 5, 6)):
            check = check_rows(shape)
            divisor = (shape[0], 2, shape[2], 0)
            for program, second in ((sum_rows(shape), shape), (difference_rows(shape), shape), (quotient_rows(shape, 2), divisor),
                                    (moved_rows(shape, -1, "half"), shape), (moved_rows(shape, 1, "cut"), shape),
                                    (tens_rows(shape, 4), shape)):
                for one, other in itertools.product(few_numbers(shape), (1, 3)):
                    cells = self.laid((self.spelled(shape, one), self.spelled(second, other)))
                    cells, mark = run(program, cells, 0)
                    cells, mark = run(check, cells, mark)
                    self.assertEqual((cells[0], mark), (0, 0), (shape, one, other))


class AskingsTest(ProgramTest):
    """Programs asked one behind the other: none is altered by another one's asking."""

    def askings(self, n, point):
        """For each program of shapes of about n figures: what asks for it, the operands, and what is wanted."""
        for kind, sign in itertools.product(KINDS, SIGNS):
            shape = (kind, n, sign, point)
            one, other = self.rng.choice(few_numbers(shape)), self.rng.choice(few_numbers(shape)[-1:] + [1])
            both = (self.spelled(shape, one), self.spelled(shape, other))
            yield (lambda shape=shape: sum_rows(shape)), both, answer(shape, one + other)
            yield (lambda shape=shape: difference_rows(shape)), both, answer(shape, one - other)
            yield (lambda shape=shape: compare_rows(shape)), both, (((one > other) - (one < other) + 1,), 0)
            yield (lambda shape=shape: check_rows(shape)), both[:1], ((0,), 0)
            for second in all_shapes((n, n + 1)):
                yield (lambda shape=shape, second=second: rekept_rows(shape, second)), both[:1], answer(second, one)
            for by, rule in itertools.product((-1, 0, 1), MODES):
                wanted = answer(shape, moved(one, by, rule))
                yield (lambda shape=shape, by=by, rule=rule: moved_rows(shape, by, rule)), both[:1], wanted
            product = (kept_row((kind, 2 * n, sign, 0), one * other), 0)
            yield (lambda shape=shape: product_rows(shape, n)), both, product
            quotient, rest = parted(one, other)
            row, mark = answer(shape, quotient)
            yield (lambda shape=shape: quotient_rows(shape, n)), both, (row + kept_row(shape, rest), mark)
            for many in (1, 2, 3, 4):
                bytes_row = one.to_bytes(16, "big", signed=True)[-many:]
                back = int.from_bytes(bytes_row, "big", signed=sign != "none")
                wanted = (tuple(bytes_row), 0 if back == one else 1)
                yield (lambda shape=shape, many=many: twos_rows(shape, many)), both[:1], wanted
                yield (lambda shape=shape, many=many: tens_rows(shape, many)), (tuple(bytes_row),), answer(shape, back)

    def test_none_is_altered(self):
        told = []
        askings = [asking for n in (1, 2, 3) for point in (0, 1) for asking in self.askings(n, point)]
        for asked in (askings, askings[::-1], self.rng.sample(askings, len(askings))):
            for ask, operands, wanted in asked:
                program = ask()
                self.assert_answer(program, operands, wanted)
                told.append((program, operands, wanted, repr(program)))
        self.rng.shuffle(told)
        for program, operands, wanted, text in told:
            self.assert_program(program)
            self.assertEqual(repr(program), text)
            self.assert_answer(program, operands, wanted)

    def test_the_two_parts_of_a_sum_among_others(self):
        parts = []
        for n in LENGTHS:
            shape = ("packed", n, "none", 0)
            parts.append((sum_parts(n), shape))
            sum_rows(shape), check_rows(shape), sum_parts(13 - n), rekept_rows(shape, ("spread", n, "end", 0))
        self.rng.shuffle(parts)
        for (plain, right), shape in parts:
            for one, other in itertools.product(few_numbers(shape), repeat=2):
                cells, mark = run(plain, self.laid((kept_row(shape, one), kept_row(shape, other))), 1)
                row, wanted = answer(shape, one + other)
                cells, mark = run(right, cells, mark)
                self.assertEqual((cells[:len(row)], mark), (row, wanted), (shape, one, other))


if __name__ == "__main__":
    unittest.main()
