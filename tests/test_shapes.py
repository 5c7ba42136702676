"""Shapes, their ends and folding: [7], [8]."""

import itertools
import string
import unittest

from oracle import KINDS, LENGTHS, SIGNS, all_shapes, ends, fold
from tensloft.errors import NoShape
from tensloft.shapes import fits, folded, least_of, most_of, shape

NO_FIGURES = (0, 13, -1, -12, 14, 99, 10 ** 39, -(10 ** 39))
NO_KINDS = ("", "none", "Packed", "PACKED", "packe", "packedd", " packed", "packed ", "spread packed", "end")
NO_SIGNS = ("", "packed", "None", "END", "ten", "tenss", " end", "end ", "none end", "-")


def one_letter_other(word):
    for at in range(len(word)):
        for letter in string.ascii_letters + " ~0":
            if letter != word[at]:
                yield word[:at] + letter + word[at + 1:]


class ShapeTest(unittest.TestCase):
    def assert_refused(self, part, *parts):
        with self.assertRaises(NoShape) as held:
            shape(*parts)
        self.assertEqual(held.exception.part, part)
        self.assertIs(type(held.exception.part), str)

    def test_every_shape(self):
        for kind, sign, n in itertools.product(KINDS, SIGNS, LENGTHS):
            for point in range(n + 1):
                made = shape(kind, n, sign, point)
                self.assertIs(type(made), tuple)
                self.assertEqual(made, (kind, n, sign, point))

    def test_every_number_of_figures(self):
        for figures in range(-30, 50):
            if 1 <= figures <= 12:
                self.assertEqual(shape("packed", figures, "end", 1), ("packed", figures, "end", 1))
            else:
                self.assert_refused("figures", "packed", figures, "end", 1)

    def test_no_figures(self):
        for kind, sign, figures in itertools.product(KINDS, SIGNS, NO_FIGURES):
            self.assert_refused("figures", kind, figures, sign, 0)

    def test_no_point(self):
        for kind, sign, n in itertools.product(KINDS, SIGNS, LENGTHS):
            for point in (n + 1, n + 2, -1, -n, 13, 10 ** 39, -(10 ** 39)):
                self.assert_refused("point", kind, n, sign, point)

    def test_no_kind(self):
        for word in NO_KINDS:
            self.assert_refused("kind", word, 3, "none", 0)
        for kind in KINDS:
            for word in one_letter_other(kind):
                self.assert_refused("kind", word, 3, "none", 0)

    def test_no_sign(self):
        for word in NO_SIGNS:
            self.assert_refused("sign", "packed", 3, word, 0)
        for sign in SIGNS:
            for word in one_letter_other(sign):
                self.assert_refused("sign", "spread", 3, word, 0)

    def test_the_first_wrong_part_is_told(self):
        right = ("packed", 4, "tens", 2)
        parts = ("kind", "figures", "sign", "point")
        wrong = (("", "pecked", "tens"), (0, 13, -4), ("", "packed", "tenz"), (-1, 5, 14))
        for chosen in itertools.product((False, True), repeat=4):
            if any(chosen):
                choices = [wrong[at] if chosen[at] else right[at:at + 1] for at in range(4)]
                for asked in itertools.product(*choices):
                    self.assert_refused(parts[chosen.index(True)], *asked)

    def test_figures_are_told_ahead_of_a_point_beyond_them(self):
        self.assert_refused("figures", "packed", 0, "none", 1)
        self.assert_refused("figures", "packed", 13, "none", 13)
        self.assert_refused("figures", "packed", -1, "none", -1)


class EndsTest(unittest.TestCase):
    def test_written_out(self):
        for asked, least, most in (
            (("packed", 1, "none", 0), 0, 9),
            (("spread", 1, "end", 1), -9, 9),
            (("packed", 1, "tens", 0), -5, 4),
            (("spread", 3, "none", 2), 0, 999),
            (("packed", 3, "end", 0), -999, 999),
            (("spread", 3, "tens", 3), -500, 499),
            (("packed", 12, "none", 0), 0, 999999999999),
            (("spread", 12, "end", 0), -999999999999, 999999999999),
            (("packed", 12, "tens", 5), -500000000000, 499999999999),
        ):
            self.assertEqual(least_of(asked), least)
            self.assertEqual(most_of(asked), most)

    def test_every_length_and_sign(self):
        for asked in all_shapes():
            kind, n, sign, point = asked
            self.assertEqual((least_of(asked), most_of(asked)), ends(n, sign))
            self.assertIs(type(least_of(asked)), int)
            self.assertIs(type(most_of(asked)), int)

    def test_the_point_has_no_part(self):
        for kind, n, sign, point in all_shapes():
            for point in range(n + 1):
                asked = (kind, n, sign, point)
                self.assertEqual((least_of(asked), most_of(asked)), ends(n, sign))
                self.assertEqual(folded(asked, -(10 ** 15) - 7), folded((kind, n, sign, 0), -(10 ** 15) - 7))


class FoldedTest(unittest.TestCase):
    def numbers(self, n, sign):
        least, most = ends(n, sign)
        asked = [least, least - 1, most, most + 1, 0, 1, -1, 5 * 10 ** (n - 1), -5 * 10 ** (n - 1) - 1]
        for times in (1, 2, 3, 10, 77, 10 ** 20):
            for beside in (-1, 0, 1, 3):
                asked += [times * 10 ** n + beside, -times * 10 ** n + beside]
        for figures in range(1, 41):
            long_one = int("1234567890987654321012345678909876543210"[:figures])
            asked += [long_one, -long_one, 10 ** figures - 1, 1 - 10 ** figures]
        return asked

    def test_written_out(self):
        for sign, number, wanted in (
            ("none", 100, 0), ("none", 101, 1), ("none", -1, 99), ("none", -100, 0), ("none", -101, 99),
            ("end", 100, 0), ("end", 101, 1), ("end", -1, -1), ("end", -100, 0), ("end", -101, -1),
            ("end", 12345, 45), ("end", -12345, -45), ("end", 99, 99), ("end", -99, -99),
            ("tens", 49, 49), ("tens", 50, -50), ("tens", -50, -50), ("tens", -51, 49), ("tens", 100, 0),
            ("tens", 99, -1), ("tens", 149, 49), ("tens", 150, -50), ("tens", -100, 0), ("tens", -151, 49),
        ):
            for kind in KINDS:
                self.assertEqual(folded((kind, 2, sign, 0), number), wanted)

    def test_every_length_and_sign(self):
        for asked in all_shapes():
            kind, n, sign, point = asked
            for number in self.numbers(n, sign):
                answer = folded(asked, number)
                self.assertIs(type(answer), int)
                self.assertEqual(answer, fold(asked, number), (asked, number))

    def test_a_number_that_fits_is_itself_and_no_other_is(self):
        for asked in all_shapes((1, 2, 3)):
            least, most = ends(asked[1], asked[2])
            for number in range(-2100, 2100):
                inside = least <= number <= most
                self.assertEqual(folded(asked, number) == number, inside)
                self.assertIs(fits(asked, number), inside)

    def test_one_beyond_each_end(self):
        for asked in all_shapes():
            kind, n, sign, point = asked
            least, most = ends(n, sign)
            beyond = (0, 0) if sign == "end" else (most, least)
            self.assertEqual((folded(asked, least - 1), folded(asked, most + 1)), beyond)


if __name__ == "__main__":
    unittest.main()
