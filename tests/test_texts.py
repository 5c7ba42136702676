"""Texts of numbers and of rows of bytes: [12], [13]."""

import itertools
import unittest

from oracle import KINDS, LENGTHS, SIGNS, all_shapes, ends, sample
from tensloft.errors import NoFit, NoText
from tensloft.texts import hexed, told, unhexed, written

# All signs from the blank to the tilde.
SIGNS_OF_TEXTS = "".join(map(chr, range(32, 127)))
FIGURES = "0123456789"


def written_text(point, number):
    """The text of a number, its figures moved one by one behind the point."""
    ahead = list(str(abs(number)))
    behind = []
    for figure in range(point):
        behind.insert(0, ahead.pop() if ahead else "0")
    text = "".join(ahead) or "0"
    if point:
        text += "." + "".join(behind)
    return ("-" if number < 0 else "") + text


class WrittenTest(unittest.TestCase):
    def assert_no_fit(self, shape, number):
        with self.assertRaises(NoFit) as held:
            written(shape, number)
        self.assertEqual(held.exception.number, number)
        self.assertIs(type(held.exception.number), int)

    def test_written_out(self):
        for figures, sign, point, number, text in (
            (4, "end", 2, -1250, "-12.50"),
            (4, "end", 2, 5, "0.05"),
            (4, "end", 2, -5, "-0.05"),
            (4, "end", 2, 0, "0.00"),
            (4, "end", 0, 0, "0"),
            (4, "end", 0, -7, "-7"),
            (4, "end", 0, 120, "120"),
            (4, "end", 4, 120, "0.0120"),
            (4, "end", 4, -9999, "-0.9999"),
            (4, "end", 3, 9999, "9.999"),
            (1, "none", 1, 7, "0.7"),
            (1, "none", 1, 0, "0.0"),
            (1, "tens", 0, -5, "-5"),
            (2, "tens", 1, -50, "-5.0"),
            (2, "tens", 2, -50, "-0.50"),
            (12, "none", 12, 1, "0.000000000001"),
            (12, "none", 0, 999999999999, "999999999999"),
            (12, "tens", 6, -500000000000, "-500000.000000"),
        ):
            for kind in KINDS:
                self.assertEqual(written((kind, figures, sign, point), number), text)
                self.assertEqual(told((kind, figures, sign, point), text), number)

    def test_every_shape(self):
        for kind, n, sign, point in all_shapes():
            for number in sample((kind, n, sign, 0)):
                for point in range(n + 1):
                    text = written((kind, n, sign, point), number)
                    self.assertIs(type(text), str)
                    self.assertEqual(text, written_text(point, number))
                    self.assertEqual(told((kind, n, sign, point), text), number)

    def test_every_number_of_few_figures(self):
        for kind, n, sign in itertools.product(KINDS, (1, 2, 3), SIGNS):
            least, most = ends(n, sign)
            for point, number in itertools.product(range(n + 1), range(least, most + 1)):
                text = written((kind, n, sign, point), number)
                self.assertEqual(text, written_text(point, number))
                self.assertEqual(told((kind, n, sign, point), text), number)

    def test_no_fit(self):
        for kind, n, sign, point in all_shapes():
            least, most = ends(n, sign)
            for point in range(n + 1):
                for number in (least - 1, most + 1, 10 ** n + 5, -(10 ** n), 10 ** 39, -(10 ** 40) + 1):
                    self.assert_no_fit((kind, n, sign, point), number)


class ToldTest(unittest.TestCase):
    def assert_told(self, shape, text, number):
        answer = told(shape, text)
        self.assertIs(type(answer), int)
        self.assertEqual(answer, number, (shape, text))

    def assert_no_text(self, shape, text):
        with self.assertRaises(NoText, msg=(shape, text)):
            told(shape, text)

    def assert_no_fit(self, shape, text):
        with self.assertRaises(NoFit, msg=(shape, text)) as held:
            told(shape, text)
        self.assertEqual(held.exception.number, text)
        self.assertIs(type(held.exception.number), str)

    def test_written_out(self):
        for figures, sign, point, text, number in (
            (3, "none", 0, "007", 7),
            (3, "none", 0, "-0", 0),
            (3, "none", 2, "-0.00", 0),
            (3, "end", 0, "-000", 0),
            (3, "none", 1, "1.500", 15),
            (3, "none", 3, "0.5", 500),
            (3, "none", 3, "000.999000", 999),
            (3, "end", 2, "-1", -100),
            (3, "end", 2, "-9.99", -999),
            (3, "end", 2, "9.990", 999),
            (3, "none", 0, "12.000", 12),
            (3, "tens", 1, "-50.0", -500),
            (3, "tens", 1, "-50", -500),
            (3, "tens", 1, "49.90", 499),
        ):
            for kind in KINDS:
                self.assert_told((kind, figures, sign, point), text, number)

    def test_no_fit_written_out(self):
        for figures, sign, point, text in (
            (3, "none", 0, "1.5"),
            (3, "none", 0, "0.1"),
            (3, "none", 0, "-1"),
            (3, "none", 0, "1000"),
            (3, "none", 1, "1.55"),
            (3, "none", 1, "100"),
            (3, "none", 1, "100.0"),
            (3, "none", 3, "1"),
            (3, "end", 2, "-10"),
            (3, "end", 2, "10.00"),
            (3, "end", 2, "0.001"),
            (3, "end", 2, "-0.0010"),
            (3, "tens", 1, "-50.1"),
            (3, "tens", 1, "50"),
            (3, "tens", 0, "0500"),
            (12, "none", 12, "0.0000000000001"),
            (12, "none", 12, "1.000"),
            (3, "none", 0, "-0.5"),
        ):
            for kind in KINDS:
                self.assert_no_fit((kind, figures, sign, point), text)

    def test_ends_with_every_point_and_one_beyond(self):
        for kind, n, sign, point in all_shapes():
            least, most = ends(n, sign)
            for point in range(n + 1):
                shape = (kind, n, sign, point)
                for number in (least, most):
                    self.assert_told(shape, written_text(point, number), number)
                for number in (least - 1, most + 1):
                    self.assert_no_fit(shape, written_text(point, number))

    def test_noughts_ahead_and_behind(self):
        for kind, n, sign, point in all_shapes((1, 2, 5, 12)):
            for point in range(n + 1):
                for number in sample((kind, n, sign, 0)):
                    size = written_text(point, abs(number))
                    minus = "-" if number < 0 else ""
                    self.assert_told((kind, n, sign, point), minus + "000" + size, number)
                    behind = "000" if "." in size else ".000"
                    self.assert_told((kind, n, sign, point), minus + size + behind, number)
                    self.assert_told((kind, n, sign, point), minus + "0" + size + behind, number)

    def test_one_figure_too_many_behind_is_no_fit(self):
        for kind, n, sign, point in all_shapes((1, 2, 5, 12)):
            for point in range(n + 1):
                for number in (0, 1, 4):
                    size = written_text(point, number)
                    more = "1" if "." in size else ".1"
                    self.assert_no_fit((kind, n, sign, point), size + more)
                    self.assert_no_fit((kind, n, sign, point), "-" + size + more)
                    self.assert_no_fit((kind, n, sign, point), size + more + "0")

    def test_up_to_thirty_figures(self):
        for kind, n, sign in itertools.product(KINDS, (1, 2, 12), SIGNS):
            for point in range(n + 1):
                shape = (kind, n, sign, point)
                whole = 10 ** point
                fits = whole <= ends(n, sign)[1]
                for many in (1, 2, 29, 30):
                    noughts = "0" * many
                    self.assert_told(shape, noughts, 0)
                    self.assert_told(shape, "-" + noughts, 0)
                    self.assert_told(shape, noughts + "." + noughts, 0)
                    self.assert_told(shape, "0." + noughts, 0)
                    one = noughts[1:] + "1"
                    if fits:
                        self.assert_told(shape, one, whole)
                        self.assert_told(shape, one + "." + "0" * 30, whole)
                    else:
                        self.assert_no_fit(shape, one)
                for many in (31, 32, 60, 1000, 2600):
                    noughts = "0" * many
                    for text in (noughts, "-" + noughts, noughts + ".0", "0." + noughts, "-0." + noughts,
                                 noughts + "." + noughts, noughts[1:] + "1", "1" + noughts[1:], "9" * many,
                                 "9" * many + ".5", "0." + "9" * many):
                        self.assert_no_text(shape, text)

    def test_thirty_figures_beyond_the_range(self):
        for shape in all_shapes((1, 3, 12)):
            for text in ("9" * 30, "-" + "9" * 30, "9" * 30 + "." + "9" * 30, "1" + "0" * 29,
                         "0." + "0" * 29 + "1", "-0." + "0" * 29 + "1"):
                self.assert_no_fit(shape, text)

    def test_no_texts(self):
        texts = ("", "-", ".", "-.", ".5", "5.", "-.5", "-5.", "1.2.3", "1..2", "..", "1.2.", ".1.2", "--1", "1-",
                 "-1-", "1-2", "1.-2", "1.2-", "-1.-2", "-1.2-3", "- 1", " 1", "1 ", " ", "  ", "1 2", "1. 2", "1 .2",
                 " -1", "-1 ", "1.5 ", "+1", "+", "-+1", "+-1", "1+", "1e2", "1E2", "0x1", "1_0", "1,5", "1,000",
                 "a", "abc", "one", "1a", "a1", "1.a", "1.5a", "-a", "inf", "nan", "None", "1/2", "1:", "\"1\"", "~")
        for shape in (("packed", 3, "end", 1), ("spread", 12, "none", 0), ("packed", 1, "tens", 1)):
            for text in texts:
                self.assert_no_text(shape, text)

    def test_each_sign_in_each_place(self):
        for shape in (("packed", 4, "end", 2), ("spread", 4, "end", 0), ("packed", 4, "none", 0)):
            for sign in SIGNS_OF_TEXTS:
                if sign not in FIGURES:
                    for text in (sign, sign + "12.5", "1" + sign + "2.5", "12." + sign + "5", "12.5" + sign,
                                 "-" + sign + "12", "-12" + sign, "12" + sign + ".5"):
                        if text not in ("-12.5", "-12.-"):
                            self.assert_no_text(shape, text)
                if sign not in FIGURES + ".":
                    self.assert_no_text(shape, "12" + sign + "5")
                if sign not in FIGURES + "-":
                    self.assert_no_text(shape, sign + "12")

    def test_no_text_is_told_ahead_of_no_fit(self):
        for shape in all_shapes((1, 3, 12)):
            for text in ("9" * 20 + ".", "9" * 20 + " ", " " + "9" * 20, "-" + "9" * 20 + "x", "9" * 31,
                         "-" + "9" * 31, "9" * 20 + "." + "9" * 31, "+" + "9" * 20, "9" * 20 + ".1.1", "--" + "9" * 20):
                self.assert_no_text(shape, text)


class HexedTest(unittest.TestCase):
    def test_written_out(self):
        for row, text in (
            ((), ""), ((0,), "00"), ((255,), "FF"), ((9, 10), "09 0A"), ((18, 93, 13), "12 5D 0D"),
            ((160, 175, 250), "A0 AF FA"),
        ):
            self.assertEqual(hexed(row), text)
            self.assertEqual(unhexed(text), row)

    def test_every_byte(self):
        for byte in range(256):
            self.assertEqual(hexed((byte,)), "%02X" % byte)
            self.assertEqual(unhexed("%02X" % byte), (byte,))

    def test_many_bytes(self):
        for many in (2, 3, 100, 255, 640):
            row = tuple((7 * at + many) % 256 for at in range(many))
            text = hexed(row)
            self.assertIs(type(text), str)
            self.assertEqual(text, bytes(row).hex(" ").upper())
            answer = unhexed(text)
            self.assertIs(type(answer), tuple)
            self.assertEqual({type(byte) for byte in answer}, {int})
            self.assertEqual(answer, row)

    def assert_no_text(self, text):
        with self.assertRaises(NoText, msg=text):
            unhexed(text)

    def test_every_two_signs(self):
        for first, second in itertools.product(SIGNS_OF_TEXTS, repeat=2):
            text = first + second
            if first in "0123456789ABCDEF" and second in "0123456789ABCDEF":
                self.assertEqual(unhexed(text), (int(text, 16),))
            else:
                self.assert_no_text(text)

    def test_no_texts(self):
        for text in (" ", "  ", "0", "A", "000", "0A0", "0A 0", "0 0A", "0A  0B", " 0A", "0A ", "0A 0B ", " 0A 0B",
                     "0A0B", "0A 0B0C", "0a", "a0", "aa", "ff", "0A 0b", "0A,0B", "0x0A", "+A", "-1", "0G", "G0",
                     "1 2", "12 3", "12 345", "0A-0B", "0A\n0B", "0A\t0B", "0A 0B\n"):
            self.assert_no_text(text)

    def test_one_sign_out_in_or_another(self):
        row = tuple((37 * at) % 256 for at in range(12))
        text = hexed(row)
        for at in range(len(text)):
            self.assert_no_text(text[:at] + text[at + 1:])
            for sign in SIGNS_OF_TEXTS:
                self.assert_no_text(text[:at] + sign + text[at:])
                other = text[:at] + sign + text[at + 1:]
                if sign in "0123456789ABCDEF" and text[at] != " ":
                    self.assertEqual(unhexed(other), tuple(bytes.fromhex(other)))
                elif other != text:
                    self.assert_no_text(other)

    def test_a_long_text_with_a_fault(self):
        text = hexed(tuple(range(256)) * 2 + tuple(range(128)))
        self.assertEqual(len(unhexed(text)), 640)
        for wrong in (text + " ", " " + text, text[:-1], text[1:], text.lower(), text[:900] + " " + text[900:]):
            self.assert_no_text(wrong)


if __name__ == "__main__":
    unittest.main()
