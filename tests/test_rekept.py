"""Programs for other ways of keeping: [21]."""

import itertools
import unittest

from oracle import LENGTHS, KINDS, all_shapes, answer, ends, kept_row, spellings
from tensloft.machine import run
from tensloft.rekept import rekept_rows
from trial import ProgramTest, few_numbers


def numbers_for(one, other):
    """Numbers of the first shape: its own ends, those of the second one, one beyond these, and others."""
    least, most = ends(one[1], one[2])
    asked = few_numbers(one)
    for end in ends(other[1], other[2]):
        asked += [end - 1, end, end + 1, -end]
    asked += [10 ** other[1], -(10 ** other[1]), 10 ** other[1] + 7, -(10 ** other[1]) - 7]
    return sorted({number for number in asked if least <= number <= most})


class RekeptTest(ProgramTest):
    def test_written_out(self):
        packed, spread = "packed", "spread"
        for one, other, row, wanted, mark in (
            ((packed, 3, "none", 0), (spread, 3, "none", 0), "01 20", "F1 F2 F0", 0),
            ((spread, 3, "none", 0), (packed, 2, "none", 0), "F1 F2 F0", "20", 1),
            ((spread, 3, "none", 0), (packed, 2, "none", 0), "F0 F2 F0", "20", 0),
            ((packed, 2, "end", 0), (packed, 2, "none", 0), "00 1D", "99", 1),
            ((packed, 2, "end", 0), (packed, 2, "none", 0), "00 0D", "00", 0),
            ((packed, 2, "end", 0), (packed, 4, "none", 0), "00 1B", "99 99", 1),
            ((packed, 2, "end", 0), (packed, 2, "tens", 0), "05 0D", "50", 0),
            ((packed, 2, "end", 0), (packed, 2, "tens", 0), "05 0C", "50", 1),
            ((packed, 2, "end", 0), (packed, 2, "tens", 0), "05 1D", "49", 1),
            ((packed, 2, "end", 0), (spread, 3, "tens", 0), "09 9D", "F9 F0 F1", 0),
            ((packed, 2, "tens", 0), (packed, 2, "end", 0), "50", "05 0D", 0),
            ((packed, 2, "tens", 0), (spread, 1, "end", 0), "90", "C0", 1),
            ((packed, 2, "tens", 0), (spread, 1, "end", 0), "91", "D9", 0),
            ((packed, 2, "tens", 0), (packed, 3, "tens", 0), "99", "09 99", 0),
            ((packed, 2, "tens", 0), (packed, 1, "tens", 0), "94", "04", 1),
            ((packed, 2, "tens", 0), (packed, 1, "tens", 0), "95", "05", 0),
            ((packed, 2, "tens", 0), (packed, 1, "tens", 0), "05", "05", 1),
            ((packed, 2, "none", 0), (packed, 2, "end", 0), "99", "09 9C", 0),
            ((spread, 1, "end", 0), (spread, 1, "end", 0), "B5", "D5", 0),
            ((spread, 1, "end", 0), (spread, 2, "end", 0), "E5", "F0 C5", 0),
        ):
            wanted = (tuple(bytes.fromhex(wanted)), mark)
            self.assert_answer(rekept_rows(one, other), (tuple(bytes.fromhex(row)),), wanted, (one, other))

    def test_every_two_shapes(self):
        for one, other in itertools.product(all_shapes(), repeat=2):
            program = rekept_rows(one, other)
            for number in numbers_for(one, other):
                self.assert_kept(program, (self.spelled(one, number),), other, number)

    def test_it_is_a_program(self):
        for one, other in itertools.product(all_shapes((1, 2, 5, 6, 11, 12)), repeat=2):
            self.assert_program(rekept_rows(one, other))

    def test_every_number_of_few_figures(self):
        for one, other in itertools.product(all_shapes((1, 2)), repeat=2):
            program = rekept_rows(one, other)
            least, most = ends(one[1], one[2])
            for number in range(least, most + 1):
                row = self.spelled(one, number)
                cells, mark = run(program, self.laid((row,)), number % 2)
                wanted, mark_wanted = answer(other, number)
                self.assertEqual((cells[:len(wanted)], mark), (wanted, mark_wanted), (one, other, number))

    def test_each_half_of_the_sign(self):
        for kind, n in itertools.product(KINDS, LENGTHS):
            one = (kind, n, "end", 0)
            for other in all_shapes((1, n, 12)):
                program = rekept_rows(one, other)
                for number in (0, 5, -5, ends(n, "end")[0], ends(n, "end")[1]):
                    for row in spellings(one, number):
                        self.assert_kept(program, (row,), other, number)

    def test_there_and_back(self):
        for one, other in itertools.product(all_shapes((1, 3, 4, 12)), repeat=2):
            there, back = rekept_rows(one, other), rekept_rows(other, one)
            for number in few_numbers(one):
                cells, mark = run(there, self.laid((kept_row(one, number),)), 1)
                if mark == 0:
                    cells, mark = run(back, cells, mark)
                    row = kept_row(one, number)
                    self.assertEqual((cells[:len(row)], mark), (row, 0), (one, other, number))

    def test_any_bytes_elsewhere(self):
        for one, other in itertools.product(all_shapes((1, 2, 12)), repeat=2):
            program = rekept_rows(one, other)
            for number in (ends(one[1], one[2])[0], 1):
                self.assert_any_fill(program, (kept_row(one, number),), answer(other, number))

    def test_the_points_have_no_part(self):
        for one, other in itertools.product(all_shapes((3,)), repeat=2):
            for first, second in itertools.product((0, 1, 3), repeat=2):
                pointed = (*one[:3], first), (*other[:3], second)
                for number in few_numbers(one):
                    self.assert_kept(rekept_rows(*pointed), (self.spelled(one, number),), other, number)


if __name__ == "__main__":
    unittest.main()
