"""Programs looked at, and programs that look at rows of bytes: [32], [33]."""

import itertools
import unittest

from oracle import KINDS, all_shapes, answer, caught_text, halves_text, kept_row, pattern_of, spellings
from plain_machine import plain_run
from tensloft.checks import check_rows, does
from tensloft.differences import compare_rows, difference_rows
from tensloft.errors import NoDeed, NoRow, NoShape, NoTable
from tensloft.machine import run
from tensloft.sums import sum_rows
from trial import ProgramTest, few_numbers

DEEDS = ("sum", "difference", "compare")
TOLD = {"sum": sum_rows, "difference": difference_rows, "compare": compare_rows}
IDENTITY = tuple(range(256))


def wanted(deed, shape, one, other):
    if deed == "compare":
        return (0 if one < other else 1 if one == other else 2,), 0
    return answer(shape, one + other if deed == "sum" else one - other)


def plainly_does(deed, kind, program):
    """[32], on the second machine."""
    shape = (kind, 1, "none", 0)
    for one, other in itertools.product(range(10), repeat=2):
        cells = kept_row(shape, one) + kept_row(shape, other)
        cells, mark = plain_run(program, cells + (0,) * (256 - len(cells)), 0)
        if (cells[:1], mark) != wanted(deed, shape, one, other):
            return False
    return True


def short_programs(kind):
    """Programs of few rows for each deed, made by hand."""
    zone = 240 if kind == "spread" else 0
    low = tuple(byte % 16 for byte in range(256))
    nine_less = tuple((9 - byte % 16) % 256 for byte in range(256))
    last_figures = tuple(zone + byte % 10 for byte in range(256))
    # 246 sends just the sums from 10 on over 256.
    figures = tuple(zone + (byte - 246 if byte >= 246 else byte) % 16 for byte in range(256))
    added = (("look", 0, 0), ("look", 1, 0), ("add", 0, 1), ("put", 2, 246), ("add", 0, 2), ("look", 0, 1))
    # Ten and the difference are 1 to 19.
    ten_and = (("look", 0, 0), ("look", 1, 1), ("mark", 1), ("addc", 0, 1))
    below = tuple(255 if byte < 10 else 0 for byte in range(256))
    orders = tuple(0 if byte < 10 else 1 if byte == 10 else 2 for byte in range(256))
    return {
        "sum": ((low, figures), added),
        "difference": ((low, nine_less, last_figures, below),
                       ten_and + (("copy", 2, 0), ("look", 0, 2), ("look", 2, 3), ("add", 2, 2))),
        "compare": ((low, nine_less, orders), ten_and + (("look", 0, 2),)),
    }


class DoesTest(ProgramTest):
    def assert_does(self, deed, kind, program, wanted=None):
        told = does(deed, kind, program)
        if wanted is not None:
            self.assertIs(told, wanted, (deed, kind))
        self.assertIs(told, plainly_does(deed, kind, program), (deed, kind))
        return told

    def good_programs(self):
        """The told programs, and the short ones that are right."""
        for kind, deed in itertools.product(KINDS, DEEDS):
            yield deed, kind, TOLD[deed]((kind, 1, "none", 0))
            yield deed, kind, short_programs(kind)[deed]

    def test_right_programs(self):
        for deed, kind, program in self.good_programs():
            self.assert_does(deed, kind, program, True)

    def test_the_programs_of_other_deeds_and_kinds(self):
        for deed, kind, program in self.good_programs():
            for other, second in itertools.product(DEEDS, KINDS):
                # By tables alone a short program may do for both kinds what it does for one.
                self.assert_does(other, second, program)
                if other != deed:
                    self.assert_does(other, second, program, False)

    def test_one_row_amiss(self):
        for deed, kind, program in self.good_programs():
            tables, rows = program
            told = []
            for at, row in enumerate(rows):
                others = [rows[:at] + rows[at + 1:], rows[:at] + (row, row) + rows[at + 1:]]
                for place in range(1, len(row)):
                    changed = row[:place] + ((row[place] + 1) % (2 if row[0] == "mark" else len(tables)),) + row[place + 1:]
                    others.append(rows[:at] + (changed,) + rows[at + 1:])
                for other in others:
                    told.append(self.assert_does(deed, kind, (tables, other)))
            self.assertIn(False, told)

    def test_one_byte_of_a_table_amiss(self):
        for deed, kind, program in self.good_programs():
            tables, rows = program
            told = []
            for number, table in enumerate(tables):
                for at in (*range(0, 27), *range(240, 256), 128):
                    other = table[:at] + ((table[at] + 1) % 256,) + table[at + 1:]
                    told.append(self.assert_does(deed, kind, (tables[:number] + (other,) + tables[number + 1:], rows)))
            self.assertIn(False, told)
            self.assertIn(True, told)

    def test_one_pair_amiss(self):
        # The place 16 a + b of the table is asked for just one pair.
        for kind, deed in itertools.product(KINDS, ("sum", "compare")):
            shape = (kind, 1, "none", 0)
            table = [0] * 256
            marks = [0] * 256
            for one, other in itertools.product(range(10), repeat=2):
                row, mark = wanted(deed, shape, one, other)
                table[16 * one + other], marks[16 * one + other] = row[0], 255 * mark
            high = tuple(byte % 16 * 16 for byte in range(256))
            low = tuple(byte % 16 for byte in range(256))
            rows = (("look", 0, 0), ("look", 1, 1), ("or", 0, 1), ("copy", 2, 0), ("look", 0, 2), ("look", 2, 3), ("add", 2, 2))
            self.assert_does(deed, kind, ((high, low, tuple(table), tuple(marks)), rows), True)
            for one, other in itertools.product(range(10), repeat=2):
                at = 16 * one + other
                wrong = tuple(table[:at] + [table[at] ^ 1] + table[at + 1:])
                self.assertIs(does(deed, kind, ((high, low, wrong, tuple(marks)), rows)), False)
                wrong = tuple(marks[:at] + [255 - marks[at]] + marks[at + 1:])
                self.assertIs(does(deed, kind, ((high, low, tuple(table), wrong), rows)), False)

    def test_other_cells_and_the_mark_are_nought(self):
        # A program that leans on cells or on the mark being 0 does its deed here.
        for deed, kind, (tables, rows) in self.good_programs():
            if deed == "sum" and len(rows) < 10:
                leaning = tuple(("addc", *row[1:]) if row == ("add", 0, 1) else row for row in rows)
                self.assertNotEqual(leaning, rows)
                self.assert_does(deed, kind, (tables, leaning), True)
                self.assert_does(deed, kind, (tables, (("or", 0, 255),) + rows), True)
                self.assert_does(deed, kind, (tables, (("mark", 1),) + leaning), False)

    def test_no_program_at_all(self):
        for deed, kind in itertools.product(DEEDS, KINDS):
            self.assert_does(deed, kind, ((), ()), False)
            self.assert_does(deed, kind, ((IDENTITY,), (("look", 0, 0),)), False)
            self.assert_does(deed, kind, ((), (("put", 0, 1), ("mark", 0))), False)

    def test_refusals_in_their_order(self):
        no_table = ((IDENTITY, IDENTITY[:255]), (("none",),))
        no_row = ((IDENTITY,), (("look", 0, 0), ("put", 256, 0)))
        good = ((), ())
        for deed, kind, program in itertools.product(("", "Sum", "sums", "less", "product", "packed", " sum", "sum "),
                                                     ("packed", "spread", "none", ""), (no_table, no_row, good)):
            with self.assertRaises(NoDeed) as held:
                does(deed, kind, program)
            self.assertEqual(held.exception.deed, deed)
        for deed, kind, program in itertools.product(DEEDS, ("", "Packed", "packe", "spread ", "none", "sum"),
                                                     (no_table, no_row, good)):
            with self.assertRaises(NoShape) as held:
                does(deed, kind, program)
            self.assertEqual(held.exception.part, "kind")
        for deed, kind in itertools.product(DEEDS, KINDS):
            with self.assertRaises(NoTable) as held:
                does(deed, kind, no_table)
            self.assertEqual(held.exception.at, 1)
            with self.assertRaises(NoTable) as held:
                does(deed, kind, ((IDENTITY,) * 17, ()))
            self.assertEqual(held.exception.at, 16)
            with self.assertRaises(NoRow) as held:
                does(deed, kind, no_row)
            self.assertEqual(held.exception.at, 1)
            with self.assertRaises(NoRow) as held:
                does(deed, kind, ((), (("mark", 0), ("mark", 0), ("look", 0, 0))))
            self.assertEqual(held.exception.at, 2)
            self.assertIs(does(deed, kind, ((), (("copy", 255, 0),))), False)


class CheckTest(ProgramTest):
    def assert_checked(self, program, shape, row):
        fault = caught_text(shape, halves_text(row))
        for mark in (0, 1):
            cells, behind = run(program, self.laid((row,)), mark)
            self.assertEqual((cells[0], behind), (0 if fault is None else fault[0] + 1, 0), (shape, halves_text(row), mark))

    def with_half(self, row, place, half):
        text = halves_text(row)
        return tuple(bytes.fromhex(text[:place] + "%X" % half + text[place + 1:]))

    def test_written_out(self):
        for shape, row, told in (
            (("packed", 3, "none", 0), "01 23", 0),
            (("packed", 3, "none", 0), "11 23", 1),
            (("packed", 3, "none", 0), "0A 23", 2),
            (("packed", 3, "none", 0), "01 2F", 4),
            (("packed", 2, "end", 0), "01 2A", 0),
            (("packed", 2, "end", 0), "01 29", 4),
            (("spread", 2, "end", 0), "F1 B2", 0),
            (("spread", 2, "end", 0), "F1 92", 3),
            (("spread", 2, "end", 0), "E1 92", 1),
            (("spread", 2, "tens", 0), "F1 FB", 4),
        ):
            program = check_rows(shape)
            cells, mark = run(program, self.laid((tuple(bytes.fromhex(row)),)), 1)
            self.assertEqual((cells[0], mark), (told, 0), (shape, row))

    def test_it_is_a_program(self):
        for shape in all_shapes():
            self.assert_program(check_rows(shape))

    def test_good_rows(self):
        for shape in all_shapes():
            program = check_rows(shape)
            for number in few_numbers(shape):
                for row in spellings(shape, number):
                    self.assertIsNone(caught_text(shape, halves_text(row)))
                    self.assert_checked(program, shape, row)

    def test_each_half_at_each_place(self):
        for shape in all_shapes():
            program = check_rows(shape)
            row = spellings(shape, few_numbers(shape)[-1])[0]
            for place, half in itertools.product(range(len(pattern_of(shape))), range(16)):
                self.assert_checked(program, shape, self.with_half(row, place, half))

    def test_two_halves_wrong(self):
        for shape in all_shapes():
            program = check_rows(shape)
            row = kept_row(shape, 0)
            for first, second in itertools.combinations(range(len(pattern_of(shape))), 2):
                drawn = self.with_half(row, first, self.rng.randrange(16))
                self.assert_checked(program, shape, self.with_half(drawn, second, self.rng.randrange(16)))

    def test_any_bytes(self):
        for shape in all_shapes():
            program = check_rows(shape)
            many = len(kept_row(shape, 0))
            for step in range(40):
                self.assert_checked(program, shape, tuple(self.rng.randbytes(many)))
            for byte in range(256):
                self.assert_checked(program, shape, (byte,) * many)

    def test_one_byte_every_byte(self):
        for shape in all_shapes((1, 2)):
            if len(kept_row(shape, 0)) == 1:
                program = check_rows(shape)
                for byte in range(256):
                    self.assert_checked(program, shape, (byte,))
                    fault = caught_text(shape, halves_text((byte,)))
                    cells, mark = plain_run(program, self.laid(((byte,),)), 1)
                    self.assertEqual((cells[0], mark), (0 if fault is None else fault[0] + 1, 0))

    def test_any_bytes_elsewhere(self):
        for shape in all_shapes((1, 2, 12)):
            program = check_rows(shape)
            good = kept_row(shape, 1)
            self.assert_any_fill(program, (good,), ((0,), 0))
            wrong = self.with_half(good, len(pattern_of(shape)) - 1, 9 if shape[0] == "packed" and shape[2] == "end" else 10)
            self.assert_any_fill(program, (wrong,), ((len(pattern_of(shape)),), 0))

    def test_the_point_has_no_part(self):
        for kind, n, sign, point in all_shapes((3,)):
            for point in range(n + 1):
                program = check_rows((kind, n, sign, point))
                for place, half in itertools.product(range(len(pattern_of((kind, n, sign, 0)))), (0, 9, 10, 15)):
                    row = self.with_half(kept_row((kind, n, sign, 0), 1), place, half)
                    self.assert_checked(program, (kind, n, sign, 0), row)


if __name__ == "__main__":
    unittest.main()
