"""Lines of rows: [16]."""

import itertools
import random
import unittest

from plain_machine import NUMBERS
from tensloft.errors import BadLine
from tensloft.lines import rows_told, rows_written

BOUNDS = {"c": 256, "k": 256, "t": 16, "m": 2}


def right_rows():
    """Every word with numbers at their ends and between."""
    for word, letters in NUMBERS.items():
        choices = [sorted({0, 1, BOUNDS[letter] // 2, BOUNDS[letter] - 1}) for letter in letters]
        for numbers in itertools.product(*choices):
            yield (word, *numbers)


class LinesTest(unittest.TestCase):
    def assert_both_ways(self, rows, text):
        written = rows_written(rows)
        self.assertIs(type(written), str)
        self.assertEqual(written, text)
        answer = rows_told(text)
        self.assertIs(type(answer), tuple)
        for row in answer:
            self.assertIs(type(row), tuple)
            self.assertEqual([type(part) for part in row], [str] + [int] * (len(row) - 1))
        self.assertEqual(answer, rows)

    def assert_bad(self, text, at):
        with self.assertRaises(BadLine, msg=repr(text)) as held:
            rows_told(text)
        self.assertEqual(held.exception.at, at)
        self.assertIs(type(held.exception.at), int)

    def test_written_out(self):
        self.assert_both_ways((), "")
        self.assert_both_ways((("put", 0, 255),), "put 0 255")
        self.assert_both_ways((("mark", 1), ("left", 10), ("look", 7, 15)), "mark 1\nleft 10\nlook 7 15")
        self.assert_both_ways((("and", 255, 0), ("addc", 100, 9)), "and 255 0\naddc 100 9")

    def test_every_word(self):
        for row in right_rows():
            text = " ".join(map(str, row))
            self.assert_both_ways((row,), text)
            self.assert_both_ways((row, ("mark", 0), row), text + "\nmark 0\n" + text)

    def test_every_number(self):
        for word, letters in NUMBERS.items():
            for at, letter in enumerate(letters):
                for number in range(300):
                    row = (word, *[number if place == at else 1 for place in range(len(letters))])
                    if number < BOUNDS[letter]:
                        self.assert_both_ways((row,), " ".join(map(str, row)))
                    else:
                        self.assert_bad(" ".join(map(str, row)), 0)

    def test_up_to_two_hundred_rows(self):
        rng = random.Random(16)
        choices = list(right_rows())
        for many in (0, 1, 2, 199, 200):
            rows = tuple(rng.choice(choices) for at in range(many))
            self.assert_both_ways(rows, "\n".join(" ".join(map(str, row)) for row in rows))
        rows = (("addc", 255, 255),) * 200
        self.assert_both_ways(rows, "\n".join(["addc 255 255"] * 200))

    def test_more_than_two_hundred_lines(self):
        line = "copy 12 3"
        for many in (201, 202, 250):
            self.assert_bad("\n".join([line] * many), 200)
            for at in (0, 1, 100, 199):
                lines = [line] * many
                lines[at] = "copy 12"
                self.assert_bad("\n".join(lines), at)
        for last in ("", "copy 12", " "):
            self.assert_bad("\n".join([line] * 200 + [last]), 200)

    def test_bad_lines(self):
        bad = ("put", "put 0", "put 0 0 0", "put 0 0 0 0", "put 00 0", "put 0 00", "put 01 0", "put 0 01", "put 000 0",
               "put 256 0", "put 0 256", "put 1000 0", "put -1 0", "put 0 -1", "put 0 -0", "put +1 0", "put 0 +1",
               "put  0 0", "put 0  0", " put 0 0", "put 0 0 ", "put 0 0  ", "put a 0", "put 0 a", "put 0 0x1",
               "put 0 1_0", "put 0 1.0", "put 0,0", "put,0,0", "put0 0", "Put 0 0", "PUT 0 0", "pUt 0 0", "puts 0 0",
               "copy 0 256", "copy 256 0", "add 0", "add 0 0 0", "ADD 0 0", "addc 0 300", "addC 0 0", "and 0", "or 0",
               "left", "left 256", "left 0 0", "left 00", "LEFT 0", "right", "right 256", "right 1 1", "look 0",
               "look 0 16", "look 256 0", "look 0 015", "look 0 99", "mark", "mark 2", "mark 00", "mark 01", "mark -1",
               "mark 0 0", "Mark 0", "sub 0 0", "jump 0", "0 0 0", "0", " ", "  ", "none", "put\t0 0", "~",
               "put 0 " + "9" * 2600, "put 0 " + "0" * 2600, "put " + "1" * 2600 + " 0", "put" + " 0" * 1300)
        for line in bad:
            self.assert_bad(line, 0)
            self.assert_bad(line + "\nput 0 0", 0)
            self.assert_bad("put 0 0\n" + line, 1)
            self.assert_bad("put 0 0\nmark 1\n" + line + "\n" + line, 2)

    def test_lines_without_signs(self):
        self.assert_bad("\n", 0)
        self.assert_bad("\n\n", 0)
        self.assert_bad("\nput 0 0", 0)
        self.assert_bad("put 0 0\n", 1)
        self.assert_bad("put 0 0\n\nput 0 0", 1)
        self.assert_bad("put 0 0\nmark 0\n\n", 2)
        self.assert_bad("\n".join(["put 0 0"] * 200) + "\n", 200)

    def test_other_line_ends_are_none(self):
        for between in ("\r\n", "\r", ";", " ", "  ", "\n ", " \n"):
            self.assert_bad("put 0 0" + between + "mark 1", 1 if between == "\n " else 0)

    def test_one_sign_another(self):
        text = "look 14 5"
        for at in range(len(text)):
            for sign in map(chr, range(32, 127)):
                other = text[:at] + sign + text[at + 1:]
                parts = other.split(" ")
                right = parts[0] == "look" and len(parts) == 3 and parts[1].isdigit() and parts[2].isdigit()
                if right and parts[1][0] != "0":
                    self.assert_both_ways((("look", int(parts[1]), int(parts[2])),), other)
                else:
                    self.assert_bad("mark 0\n" + other, 1)

    def test_of_two_bad_lines_the_first_is_told(self):
        for first, second in itertools.combinations(range(6), 2):
            lines = ["mark 0"] * 6
            lines[first] = "mark 2"
            lines[second] = ""
            self.assert_bad("\n".join(lines), first)


if __name__ == "__main__":
    unittest.main()
