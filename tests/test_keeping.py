"""Kept rows, read rows, caught rows: [6], [9] to [11]."""

import itertools
import unittest

from oracle import KINDS, LENGTHS, SIGNS, all_shapes, caught_text, ends, halves_text, kept_text, pattern_of
from oracle import read_text, row, sample
from tensloft.errors import NoFit, Wrong
from tensloft.keeping import bytes_of, caught, kept, number_of

WRITTEN_OUT = (
    (("packed", 1, "none", 0), 0, "00"),
    (("packed", 1, "none", 0), 9, "09"),
    (("packed", 2, "none", 1), 7, "07"),
    (("packed", 2, "none", 0), 99, "99"),
    (("packed", 3, "none", 0), 120, "01 20"),
    (("packed", 12, "none", 0), 999999999999, "99 99 99 99 99 99"),
    (("packed", 12, "none", 0), 34, "00 00 00 00 00 34"),
    (("packed", 1, "end", 0), 5, "5C"),
    (("packed", 1, "end", 1), -5, "5D"),
    (("packed", 1, "end", 0), 0, "0C"),
    (("packed", 2, "end", 0), -12, "01 2D"),
    (("packed", 3, "end", 2), -120, "12 0D"),
    (("packed", 3, "end", 2), 120, "12 0C"),
    (("packed", 12, "end", 0), -999999999999, "09 99 99 99 99 99 9D"),
    (("packed", 1, "tens", 0), -5, "05"),
    (("packed", 1, "tens", 0), -1, "09"),
    (("packed", 1, "tens", 0), 4, "04"),
    (("packed", 2, "tens", 0), -1, "99"),
    (("packed", 2, "tens", 0), -50, "50"),
    (("packed", 3, "tens", 0), -500, "05 00"),
    (("packed", 3, "tens", 0), -12, "09 88"),
    (("packed", 12, "tens", 0), -500000000000, "50 00 00 00 00 00"),
    (("spread", 1, "none", 0), 0, "F0"),
    (("spread", 2, "none", 0), 7, "F0 F7"),
    (("spread", 3, "none", 3), 120, "F1 F2 F0"),
    (("spread", 1, "end", 0), 5, "C5"),
    (("spread", 1, "end", 0), -5, "D5"),
    (("spread", 1, "end", 0), 0, "C0"),
    (("spread", 3, "end", 0), -120, "F1 F2 D0"),
    (("spread", 3, "end", 0), 12, "F0 F1 C2"),
    (("spread", 1, "tens", 0), -5, "F5"),
    (("spread", 2, "tens", 0), -12, "F8 F8"),
    (("spread", 3, "tens", 0), 499, "F4 F9 F9"),
    (("spread", 12, "tens", 0), -1, "F9 F9 F9 F9 F9 F9 F9 F9 F9 F9 F9 F9"),
    (("spread", 12, "end", 0), -1, "F0 F0 F0 F0 F0 F0 F0 F0 F0 F0 F0 D1"),
)
BYTES = {
    ("packed", "none"): (1, 1, 2, 2, 3, 3, 4, 4, 5, 5, 6, 6),
    ("packed", "end"): (1, 2, 2, 3, 3, 4, 4, 5, 5, 6, 6, 7),
    ("packed", "tens"): (1, 1, 2, 2, 3, 3, 4, 4, 5, 5, 6, 6),
    ("spread", "none"): LENGTHS,
    ("spread", "end"): LENGTHS,
    ("spread", "tens"): LENGTHS,
}


class KeptTest(unittest.TestCase):
    def assert_row(self, answer, text):
        self.assertIs(type(answer), tuple)
        for byte in answer:
            self.assertIs(type(byte), int)
        self.assertEqual(answer, row(text))

    def test_written_out(self):
        for shape, number, text in WRITTEN_OUT:
            self.assert_row(kept(shape, number), text)
            self.assertEqual(number_of(shape, row(text)), number)
            self.assertIsNone(caught(shape, row(text)))

    def test_every_kind_sign_and_length(self):
        for shape in all_shapes():
            for number in sample(shape):
                self.assert_row(kept(shape, number), kept_text(shape, number))

    def test_the_point_has_no_part(self):
        for kind, n, sign, point in all_shapes():
            for number in sample((kind, n, sign, 0)):
                for point in range(n + 1):
                    self.assertEqual(kept((kind, n, sign, point), number), kept((kind, n, sign, 0), number))
                    self.assertEqual(bytes_of((kind, n, sign, point)), bytes_of((kind, n, sign, 0)))

    def test_bytes_of(self):
        for kind, n, sign, point in all_shapes():
            many = bytes_of((kind, n, sign, point))
            self.assertIs(type(many), int)
            self.assertEqual(many, BYTES[kind, sign][n - 1])

    def test_no_fit(self):
        for shape in all_shapes():
            least, most = ends(shape[1], shape[2])
            for number in (least - 1, most + 1, least - 7, most + 7, 10 ** shape[1], -(10 ** shape[1]),
                           10 ** 39 + 1, -(10 ** 39) - 1, 10 ** 40 - 1, 10 ** 5000):
                with self.assertRaises(NoFit) as held:
                    kept(shape, number)
                self.assertEqual(held.exception.number, number)
                self.assertIs(type(held.exception.number), int)


class NumberTest(unittest.TestCase):
    def test_of_kept_is_the_number(self):
        for shape in all_shapes():
            for number in sample(shape):
                answer = number_of(shape, kept(shape, number))
                self.assertIs(type(answer), int)
                self.assertEqual(answer, number)

    def test_every_number_of_few_figures(self):
        for shape in all_shapes((1, 2, 3)):
            least, most = ends(shape[1], shape[2])
            rows = [kept(shape, number) for number in range(least, most + 1)]
            self.assertEqual([number_of(shape, one) for one in rows], list(range(least, most + 1)))
            self.assertEqual(len(set(rows)), most + 1 - least)

    def test_every_good_sign(self):
        for kind, n in itertools.product(KINDS, LENGTHS):
            shape = (kind, n, "end", 0)
            at = pattern_of(shape).index("s")
            for number in (0, 1, 9, 10 ** n - 1, int("1234567890123"[:n])):
                text = kept_text(shape, number)
                for half, wanted in zip("ABCDEF", (number, -number, number, -number, number, number)):
                    signed = row(text[:at] + half + text[at + 1:])
                    self.assertIsNone(caught(shape, signed))
                    self.assertEqual(number_of(shape, signed), wanted)

    def test_tens_by_the_first_figure(self):
        for kind, n in itertools.product(KINDS, LENGTHS):
            for first, behind in itertools.product("0123456789", ("0" * 11, "9" * 11, "50505050505")):
                figures = first + behind[:n - 1]
                text = figures.rjust(n + n % 2, "0") if kind == "packed" else "F" + "F".join(figures)
                wanted = int(figures) - (10 ** n if first in "56789" else 0)
                self.assertEqual(number_of((kind, n, "tens", 0), row(text)), wanted)
        self.assertEqual(number_of(("packed", 2, "tens", 0), (0x49,)), 49)
        self.assertEqual(number_of(("packed", 2, "tens", 0), (0x50,)), -50)
        self.assertEqual(number_of(("packed", 2, "tens", 0), (0x99,)), -1)


class CaughtTest(unittest.TestCase):
    def assert_caught(self, shape, asked, wanted):
        answer = caught(shape, asked)
        self.assertIs(type(answer), tuple)
        self.assertEqual([type(part) for part in answer], [int, str])
        self.assertEqual(answer, wanted, (shape, asked))
        with self.assertRaises(Wrong) as held:
            number_of(shape, asked)
        self.assertEqual((held.exception.place, held.exception.why), wanted)

    def assert_told(self, shape, text):
        wanted = caught_text(shape, text)
        if wanted is not None:
            self.assert_caught(shape, row(text), wanted)
            return
        self.assertIsNone(caught(shape, row(text)))
        self.assertEqual(number_of(shape, row(text)), read_text(shape, text))

    def test_written_out(self):
        for shape, text, wanted in (
            (("packed", 1, "none", 0), "10", (0, "ahead")),
            (("packed", 1, "none", 0), "0A", (1, "figure")),
            (("packed", 1, "none", 0), "F0", (0, "ahead")),
            (("packed", 2, "none", 0), "A0", (0, "figure")),
            (("packed", 2, "none", 0), "0F", (1, "figure")),
            (("packed", 2, "end", 0), "10 0C", (0, "ahead")),
            (("packed", 2, "end", 0), "00 09", (3, "sign")),
            (("packed", 2, "end", 0), "00 AC", (2, "figure")),
            (("packed", 2, "end", 0), "0B AC", (1, "figure")),
            (("packed", 3, "end", 0), "12 30", (3, "sign")),
            (("packed", 3, "tens", 0), "91 23", (0, "ahead")),
            (("spread", 2, "none", 0), "E0 F0", (0, "zone")),
            (("spread", 2, "none", 0), "F0 00", (2, "zone")),
            (("spread", 2, "none", 0), "FA F0", (1, "figure")),
            (("spread", 2, "none", 0), "0A F0", (0, "zone")),
            (("spread", 2, "end", 0), "F0 90", (2, "sign")),
            (("spread", 2, "end", 0), "C0 C0", (0, "zone")),
            (("spread", 2, "end", 0), "F0 0A", (2, "sign")),
            (("spread", 2, "end", 0), "F0 CA", (3, "figure")),
            (("spread", 1, "end", 0), "05", (0, "sign")),
            (("spread", 1, "tens", 0), "C5", (0, "zone")),
            (("spread", 1, "end", 0), "", (0, "length")),
            (("packed", 4, "none", 0), "", (0, "length")),
            (("packed", 4, "none", 0), "12", (2, "length")),
            (("packed", 4, "none", 0), "12 34 56", (4, "length")),
            (("packed", 4, "none", 0), "12 34 FF", (4, "length")),
            (("packed", 4, "none", 0), "1A", (1, "figure")),
            (("packed", 4, "none", 0), "12 3A 56", (3, "figure")),
            (("packed", 5, "none", 0), "10", (0, "ahead")),
            (("packed", 5, "end", 0), "12 34", (4, "length")),
            (("spread", 3, "end", 0), "F1 F2", (4, "length")),
            (("spread", 3, "end", 0), "F1 C2", (2, "zone")),
            (("spread", 3, "end", 0), "F1 F2 C3 F4", (6, "length")),
            (("spread", 3, "end", 0), "F1 F2 F3 C4", (6, "length")),
            (("spread", 3, "end", 0), "F1 F2 33 F4 F5", (4, "sign")),
        ):
            self.assertEqual(caught_text(shape, text.replace(" ", "")), wanted)
            self.assert_caught(shape, row(text), wanted)

    def test_every_byte(self):
        for shape in all_shapes((1, 2)):
            for byte in range(256):
                self.assert_told(shape, halves_text((byte,)))

    def test_every_two_bytes(self):
        for shape in (("packed", 3, "none", 0), ("packed", 3, "end", 0), ("spread", 2, "end", 0)):
            for asked in itertools.product(range(256), repeat=2):
                text = halves_text(asked)
                self.assertEqual(caught(shape, asked), caught_text(shape, text))

    def test_each_half_at_each_place(self):
        for shape in all_shapes():
            text = kept_text(shape, sample(shape)[-1])
            for place, half in itertools.product(range(len(text)), "0123456789ABCDEF"):
                self.assert_told(shape, text[:place] + half + text[place + 1:])

    def test_each_reason_at_its_first_and_last_place(self):
        bad = {"a": "19F", "f": "AF", "z": "0E9", "s": "019"}
        whys = {"a": "ahead", "f": "figure", "z": "zone", "s": "sign"}
        for shape in all_shapes():
            pattern = pattern_of(shape)
            text = kept_text(shape, ends(shape[1], shape[2])[0])
            for letter in set(pattern):
                for place in {pattern.index(letter), pattern.rindex(letter)}:
                    for half in bad[letter]:
                        asked = row(text[:place] + half + text[place + 1:])
                        self.assert_caught(shape, asked, (place, whys[letter]))

    def test_of_two_wrong_halves_the_left_one_is_told(self):
        bad = {"a": "7", "f": "B", "z": "3", "s": "4"}
        for shape in all_shapes():
            pattern = pattern_of(shape)
            text = kept_text(shape, 0)
            for left, right in itertools.combinations(range(len(text)), 2):
                halves = list(text)
                halves[left] = bad[pattern[left]]
                halves[right] = bad[pattern[right]]
                why = caught_text(shape, text[:left] + halves[left] + text[left + 1:])[1]
                self.assert_caught(shape, row("".join(halves)), (left, why))

    def test_the_row_without_bytes(self):
        for shape in all_shapes():
            self.assert_caught(shape, (), (0, "length"))

    def test_too_short(self):
        for shape in all_shapes():
            good = kept(shape, sample(shape)[0])
            for many in range(len(good)):
                self.assert_caught(shape, good[:many], (2 * many, "length"))

    def test_too_long(self):
        for shape in all_shapes():
            good = kept(shape, sample(shape)[0])
            for more in ((0,), (255,), good, (0xF0, 0xC1), (0xAA,) * 30, (0,) * (640 - len(good))):
                self.assert_caught(shape, good + more, (2 * len(good), "length"))

    def test_a_wrong_half_is_told_ahead_of_the_length(self):
        bad = {"a": "5", "f": "F", "z": "C", "s": "9"}
        for shape in all_shapes():
            pattern = pattern_of(shape)
            text = kept_text(shape, sample(shape)[-1])
            for place in range(len(text)):
                wrong = text[:place] + bad[pattern[place]] + text[place + 1:]
                wanted = (place, caught_text(shape, wrong)[1])
                for more in ("00", "FF", "F0C0", "A" * 40):
                    self.assert_caught(shape, row(wrong + more), wanted)
                for many in range(place // 2 + 1, len(text) // 2):
                    self.assert_caught(shape, row(wrong[:2 * many]), wanted)

    def test_asked_again_the_answer_is_the_same(self):
        for shape, sign in itertools.product(all_shapes((1, 4, 12)), SIGNS):
            first = (kept(shape, 0), bytes_of(shape), caught(shape, (0xF5, 0x5C)))
            kept((shape[0], shape[1], sign, 0), 1)
            caught((shape[0], shape[1], sign, 0), (0xAA,))
            self.assertEqual((kept(shape, 0), bytes_of(shape), caught(shape, (0xF5, 0x5C))), first)


if __name__ == "__main__":
    unittest.main()
