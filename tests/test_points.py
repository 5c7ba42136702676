"""Numbers moved by tens and rounded, and programs for it: [22], [23], [36]."""

import itertools
import unittest

from oracle import KINDS, LENGTHS, MODES, all_shapes, answer, ends, kept_row, moved, spellings
from tensloft import points
from tensloft.errors import NoRule, TooLong
from tensloft.points import moved_rows, rounded
from trial import ProgramTest

RULES = tuple(MODES)
NO_RULES = ("", " ", "Cut", "CUT", "cut ", " cut", "cuts", "cu", "c", "Up", "UP", "uq", "HALF", "Half", "hald", "even ",
            "Even", "EVEN", "evan", "floor ", "Floor", "FLOOR", "flour", "ceil\n", "Ceil", "CEIL", "ceiling", "ceel",
            "half even", "cut,up", "down", "none", "~", "0")


class RoundedTest(unittest.TestCase):
    def assert_rounded(self, number, by, rule):
        told = rounded(number, by, rule)
        self.assertIs(type(told), int)
        self.assertEqual(told, moved(number, by, rule), (number, by, rule))

    def assert_no_rule(self, rule, function, *asked):
        with self.assertRaises(NoRule, msg=(rule, asked)) as held:
            function(*asked, rule)
        self.assertEqual(held.exception.rule, rule)
        self.assertIs(type(held.exception.rule), str)

    def test_the_rules(self):
        self.assertEqual(points.RULES, ("cut", "up", "half", "even", "floor", "ceil"))
        self.assertIs(type(points.RULES), tuple)
        self.assertEqual(points.RULES, RULES)

    def test_written_out(self):
        for number, by, wanted in (
            (0, -1, (0, 0, 0, 0, 0, 0)),
            (14, -1, (1, 2, 1, 1, 1, 2)),
            (15, -1, (1, 2, 2, 2, 1, 2)),
            (16, -1, (1, 2, 2, 2, 1, 2)),
            (25, -1, (2, 3, 3, 2, 2, 3)),
            (-25, -1, (-2, -3, -3, -2, -3, -2)),
            (-15, -1, (-1, -2, -2, -2, -2, -1)),
            (-14, -1, (-1, -2, -1, -1, -2, -1)),
            (250, -2, (2, 3, 3, 2, 2, 3)),
            (251, -2, (2, 3, 3, 3, 2, 3)),
            (249, -2, (2, 3, 2, 2, 2, 3)),
            (1, -2, (0, 1, 0, 0, 0, 1)),
            (-1, -2, (0, -1, 0, 0, -1, 0)),
            (5, -1, (0, 1, 1, 0, 0, 1)),
            (-5, -1, (0, -1, -1, 0, -1, 0)),
            (999, -1, (99, 100, 100, 100, 99, 100)),
            (700, -2, (7, 7, 7, 7, 7, 7)),
            (-700, -2, (-7, -7, -7, -7, -7, -7)),
            (7, 0, (7, 7, 7, 7, 7, 7)),
            (-7, 2, (-700, -700, -700, -700, -700, -700)),
            (1, -40, (0, 1, 0, 0, 0, 1)),
        ):
            self.assertEqual(tuple(rounded(number, by, rule) for rule in RULES), wanted, (number, by))

    def test_every_move_and_rule(self):
        for by, rule in itertools.product(range(-40, 41), RULES):
            whole = 10 ** abs(by)
            numbers = [0, 1, 2, 3, 9, 10 ** 39, 10 ** 40 - 1, int("1234567890" * 4), int("5" * 40), int("4" + "9" * 39)]
            numbers += [q * whole + rest for q in range(6) for rest in (0, 1, whole // 2 - 1, whole // 2, whole // 2 + 1,
                                                                        whole - 1)]
            for number in numbers:
                if 0 <= number < 10 ** 40:
                    self.assert_rounded(number, by, rule)
                    self.assert_rounded(-number, by, rule)

    def test_every_small_number(self):
        for number, by, rule in itertools.product(range(-330, 331), (-3, -2, -1, 0, 1), RULES):
            self.assert_rounded(number, by, rule)

    def test_no_rule(self):
        for rule, by in itertools.product(NO_RULES, range(-40, 41)):
            for number in (0, 15, -15):
                self.assert_no_rule(rule, rounded, number, by)
        for rule in RULES:
            for at, sign in itertools.product(range(len(rule)), map(chr, range(32, 127))):
                other = rule[:at] + sign + rule[at + 1:]
                if other != rule:
                    self.assert_no_rule(other, rounded, 15, -1)
                    self.assert_no_rule(other, rounded, 15, 0)
                    self.assert_no_rule(other, moved_rows, ("packed", 3, "end", 0), -1)

    def test_no_rule_of_a_program(self):
        for rule, shape in itertools.product(NO_RULES, all_shapes((1, 4, 12))):
            n = shape[1]
            for by in (-n, -1, 0, 1, n, -n - 1, n + 1, -40, 40, 10 ** 39):
                self.assert_no_rule(rule, moved_rows, shape, by)


def numbers_for(shape, by):
    """Numbers of the shape for a move: ends, nought, ties and what is beside them, what grows beyond."""
    kind, n, sign, point = shape
    least, most = ends(n, sign)
    nines = 10 ** n - 1
    asked = [0, 1, nines, int("1234567890123"[:n]), most // 2]
    if by < 0:
        whole = 10 ** -by
        asked += [q * whole + rest for q in (0, 1, 2, 9) for rest in (0, whole // 2 - 1, whole // 2, whole // 2 + 1)]
        asked += [nines // whole * whole + whole // 2, whole - 1, most // whole * whole + whole // 2]
    else:
        whole = 10 ** by
        asked += [most // whole, most // whole + 1, nines // whole, -least // whole, -least // whole + 1, 5, 9, 10]
    asked = [most, least, least + 1] + asked + [-number for number in asked]
    return sorted({number for number in asked if least <= number <= most})


class MovedTest(ProgramTest):
    def test_written_out(self):
        for shape, by, rule, row, wanted, mark in (
            (("packed", 3, "none", 0), -1, "half", "01 25", "00 13", 0),
            (("packed", 3, "none", 0), -1, "even", "01 25", "00 12", 0),
            (("packed", 3, "none", 0), -1, "up", "09 91", "01 00", 0),
            (("packed", 3, "none", 0), 1, "cut", "01 25", "02 50", 1),
            (("packed", 3, "none", 0), 1, "cut", "00 25", "02 50", 0),
            (("packed", 3, "none", 0), 3, "cut", "00 01", "00 00", 1),
            (("packed", 3, "none", 0), 0, "cut", "01 25", "01 25", 0),
            (("packed", 3, "end", 0), -1, "floor", "12 1D", "01 3D", 0),
            (("packed", 3, "end", 0), -1, "ceil", "00 9B", "00 0C", 0),
            (("packed", 3, "end", 0), 0, "ceil", "00 9B", "00 9D", 0),
            (("packed", 3, "end", 0), 2, "ceil", "01 0B", "00 0C", 1),
            (("packed", 3, "end", 0), 2, "ceil", "01 2D", "20 0D", 1),
            (("packed", 2, "tens", 0), 1, "cut", "95", "50", 0),
            (("packed", 2, "tens", 0), 1, "cut", "94", "40", 1),
            (("packed", 2, "tens", 0), 1, "cut", "05", "50", 1),
            (("packed", 2, "tens", 0), -1, "half", "95", "99", 0),
            (("packed", 2, "tens", 0), -1, "cut", "91", "00", 0),
            (("packed", 2, "tens", 0), -2, "half", "50", "99", 0),
            (("packed", 2, "tens", 0), -2, "even", "50", "00", 0),
            (("spread", 2, "end", 0), -1, "half", "F2 B5", "F0 D3", 0),
            (("spread", 1, "end", 0), -1, "up", "E1", "C1", 0),
            (("spread", 1, "tens", 0), 1, "up", "F1", "F0", 1),
        ):
            wanted = (tuple(bytes.fromhex(wanted)), mark)
            self.assert_answer(moved_rows(shape, by, rule), (tuple(bytes.fromhex(row)),), wanted, (shape, by, rule))

    def test_every_shape_move_and_rule(self):
        for shape in all_shapes():
            for by, rule in itertools.product(range(-shape[1], shape[1] + 1), RULES):
                program = moved_rows(shape, by, rule)
                for number in numbers_for(shape, by):
                    row = self.spelled(shape, number)
                    self.assert_kept(program, (row,), shape, moved(number, by, rule))

    def test_it_is_a_program(self):
        for shape in all_shapes():
            n = shape[1]
            for by, rule in itertools.product(sorted({-n, -1, 0, 1, n}), RULES):
                self.assert_program(moved_rows(shape, by, rule))

    def test_one_figure_every_number(self):
        for shape in all_shapes((1,)):
            least, most = ends(1, shape[2])
            for by, rule in itertools.product((-1, 0, 1), RULES):
                program = moved_rows(shape, by, rule)
                for number in range(least, most + 1):
                    for row in spellings(shape, number):
                        self.assert_kept(program, (row,), shape, moved(number, by, rule))

    def test_two_figures_every_number(self):
        for shape in all_shapes((2,)):
            least, most = ends(2, shape[2])
            for by, rule in itertools.product((-2, -1, 1, 2), RULES):
                program = moved_rows(shape, by, rule)
                for number in range(least, most + 1):
                    self.assert_kept(program, (self.spelled(shape, number),), shape, moved(number, by, rule))

    def test_each_half_of_the_sign(self):
        for kind, n in itertools.product(KINDS, LENGTHS):
            shape = (kind, n, "end", 0)
            for by, rule in itertools.product(sorted({-n, -1, 0, 1, n}), RULES):
                program = moved_rows(shape, by, rule)
                for number in (0, 5, -5, ends(n, "end")[0], ends(n, "end")[1]):
                    for row in spellings(shape, number):
                        self.assert_kept(program, (row,), shape, moved(number, by, rule))

    def test_any_bytes_elsewhere(self):
        for shape in all_shapes((1, 2, 12)):
            least, most = ends(shape[1], shape[2])
            for by, rule in itertools.product((-shape[1], -1, 1), RULES):
                program = moved_rows(shape, by, rule)
                for number in (least, most):
                    wanted = answer(shape, moved(number, by, rule))
                    self.assert_any_fill(program, (kept_row(shape, number),), wanted)

    def test_the_point_has_no_part(self):
        for kind, n, sign, point in all_shapes((1, 3)):
            for point, by, rule in itertools.product(range(n + 1), range(-n, n + 1), RULES):
                shape = (kind, n, sign, point)
                for number in ends(n, sign):
                    row = self.spelled(shape, number)
                    self.assert_kept(moved_rows(shape, by, rule), (row,), shape, moved(number, by, rule))

    def test_too_long(self):
        for shape in all_shapes():
            n = shape[1]
            for by, rule in itertools.product((-n - 1, n + 1, -n - 2, n + 2, -40, 40, 10 ** 39, -(10 ** 39)), RULES):
                with self.assertRaises(TooLong) as held:
                    moved_rows(shape, by, rule)
                self.assertEqual(held.exception.number, by)
                self.assertIs(type(held.exception.number), int)


if __name__ == "__main__":
    unittest.main()
