"""The machine and what it refuses: [14], [15]."""

import itertools
import random
import unittest

from plain_machine import NUMBERS, plain_run
from tensloft.errors import NoRow, NoTable
from tensloft.machine import run

BYTES = (0, 1, 127, 128, 255)
MARKS = (0, 1)
TWO_CELLS = ("copy", "add", "addc", "and", "or")
PLAIN = tuple(range(256))
BACK = PLAIN[::-1]


def shifted(by):
    return tuple((byte + by) % 256 for byte in range(256))


class RunTest(unittest.TestCase):
    def assert_run(self, program, cells, mark, wanted=None):
        answer = run(program, cells, mark)
        self.assertIs(type(answer), tuple)
        self.assertEqual([type(part) for part in answer], [tuple, int])
        self.assertEqual({type(byte) for byte in answer[0]}, {int})
        self.assertEqual(answer, plain_run(program, cells, mark))
        if wanted is not None:
            self.assertEqual(answer, wanted)

    def test_written_out(self):
        for row, cells, mark, wanted in (
            (("put", 1, 7), (3, 4), 1, ((3, 7), 1)),
            (("copy", 1, 0), (3, 4), 1, ((3, 3), 1)),
            (("add", 0, 1), (255, 1), 0, ((0, 1), 1)),
            (("add", 0, 1), (254, 1), 1, ((255, 1), 0)),
            (("add", 0, 0), (128, 1), 0, ((0, 1), 1)),
            (("addc", 0, 1), (254, 1), 1, ((0, 1), 1)),
            (("addc", 0, 1), (254, 1), 0, ((255, 1), 0)),
            (("addc", 0, 0), (255, 1), 1, ((255, 1), 1)),
            (("and", 0, 1), (204, 170), 1, ((136, 170), 1)),
            (("or", 0, 1), (204, 170), 0, ((238, 170), 0)),
            (("left", 1), (9, 129), 1, ((9, 3), 1)),
            (("left", 1), (9, 127), 0, ((9, 254), 0)),
            (("right", 1), (9, 129), 1, ((9, 192), 1)),
            (("right", 1), (9, 128), 0, ((9, 64), 0)),
            (("look", 1, 0), (9, 3), 1, ((9, 252), 1)),
            (("mark", 0), (9, 3), 1, ((9, 3), 0)),
            (("mark", 1), (9, 3), 0, ((9, 3), 1)),
        ):
            self.assert_run(((BACK,), (row,)), cells, mark, wanted)

    def test_words_of_two_cells(self):
        for word, one, other, mark in itertools.product(TWO_CELLS, BYTES, BYTES, MARKS):
            for a, b in itertools.product((0, 1, 2), repeat=2):
                self.assert_run(((), ((word, a, b),)), (one, other, one), mark)

    def test_the_carry(self):
        for one, other, mark in itertools.product(range(0, 256, 5), range(256), MARKS):
            for word, sum_of_all in (("add", one + other), ("addc", one + other + mark)):
                wanted = ((sum_of_all % 256, other), int(sum_of_all >= 256))
                self.assertEqual(run(((), ((word, 0, 1),)), (one, other), mark), wanted)

    def test_left_and_right(self):
        for byte, mark in itertools.product(range(256), MARKS):
            self.assert_run(((), (("left", 0),)), (byte,), mark, (((2 * byte + mark) % 256,), int(byte >= 128)))
            self.assert_run(((), (("right", 0),)), (byte,), mark, ((byte // 2 + 128 * mark,), byte % 2))

    def test_and_and_or(self):
        for one, other, mark in itertools.product(range(0, 256, 7), range(256), MARKS):
            self.assertEqual(run(((), (("and", 0, 1),)), (one, other), mark), ((one & other, other), mark))
            self.assertEqual(run(((), (("or", 0, 1),)), (one, other), mark), ((one | other, other), mark))

    def test_put(self):
        for byte, k, mark in itertools.product(BYTES, range(256), MARKS):
            self.assert_run(((), (("put", 1, k),)), (byte, byte, byte), mark, ((byte, k, byte), mark))

    def test_look_in_each_of_sixteen_tables(self):
        tables = tuple(shifted(11 * at + 3) for at in range(16))
        for table, byte, mark in itertools.product(range(16), BYTES + (17, 200), MARKS):
            wanted = ((5, (byte + 11 * table + 3) % 256), mark)
            self.assert_run((tables, (("look", 1, table),)), (5, byte), mark, wanted)

    def test_the_mark(self):
        for k, mark in itertools.product(MARKS, MARKS):
            self.assert_run(((), (("mark", k),)), (3, 4), mark, ((3, 4), k))

    def test_what_leaves_the_mark(self):
        rows = (("put", 0, 255), ("copy", 0, 1), ("and", 0, 1), ("or", 0, 1), ("look", 0, 0))
        for row, one, other, mark in itertools.product(rows, BYTES, BYTES, MARKS):
            self.assertEqual(run(((BACK,), (row,)), (one, other), mark)[1], mark)

    def test_no_rows(self):
        for cells, mark in itertools.product(((0,), (1, 2, 3), tuple(range(256))), MARKS):
            self.assert_run(((), ()), cells, mark, (cells, mark))
            self.assert_run(((PLAIN,) * 16, ()), cells, mark, (cells, mark))

    def test_one_cell_and_256(self):
        for cells in ((200,), tuple(range(256))):
            last = len(cells) - 1
            for word, mark in itertools.product(TWO_CELLS, MARKS):
                self.assert_run(((), ((word, last, last),)), cells, mark)
                self.assert_run(((), ((word, 0, last), (word, last, 0))), cells, mark)
            for mark in MARKS:
                self.assert_run(((BACK,), (("left", last), ("right", last), ("look", last, 0))), cells, mark)
                self.assert_run(((BACK,), (("put", last, 9), ("addc", last, last), ("mark", 1))), cells, mark)

    def test_rows_one_behind_the_other(self):
        rows = (("put", 0, 200), ("add", 0, 0), ("put", 1, 0), ("addc", 1, 1), ("copy", 2, 1), ("left", 2))
        self.assertEqual(run(((), rows), (9, 9, 9), 0), ((144, 1, 2), 0))

    def drawn_row(self, rng, cells):
        word = rng.choice(sorted(NUMBERS))
        bounds = {"c": cells, "k": 256, "t": 3, "m": 2}
        return (word, *[rng.randrange(bounds[letter]) for letter in NUMBERS[word]])

    def test_drawn_programs(self):
        rng = random.Random(14)
        tables = (BACK, shifted(99), tuple(rng.randbytes(256)))
        for many in (1, 2, 5, 256):
            for length in (3, 30, 300):
                for mark in MARKS:
                    rows = tuple(self.drawn_row(rng, many) for at in range(length))
                    self.assert_run((tables, rows), tuple(rng.randbytes(many)), mark)

    def test_nine_thousand_rows(self):
        rows = (("mark", 1), ("addc", 0, 1), ("mark", 0)) * 3000
        answer = run(((), rows), (0, 0), 0)
        self.assertEqual(answer, ((3000 % 256, 0), 0))


class RefusedTest(unittest.TestCase):
    def assert_no_table(self, program, at, cells=(1, 2, 3)):
        with self.assertRaises(NoTable) as held:
            run(program, cells, 0)
        self.assertEqual(held.exception.at, at)
        self.assertIs(type(held.exception.at), int)

    def assert_no_row(self, program, at, cells=(1, 2, 3)):
        with self.assertRaises(NoRow, msg=program[1][-1:]) as held:
            run(program, cells, 0)
        self.assertEqual(held.exception.at, at)
        self.assertIs(type(held.exception.at), int)

    def bad_tables(self):
        yield ()
        yield (0,)
        yield PLAIN[:255]
        yield PLAIN + (0,)
        for at in (0, 1, 128, 255):
            for part in (-1, 256, 1000, -256, 10 ** 39):
                yield PLAIN[:at] + (part,) + PLAIN[at + 1:]
        yield PLAIN[:254] + (256,)
        yield PLAIN + (-1,)

    def test_no_table(self):
        for bad in self.bad_tables():
            for at in (0, 1, 15):
                tables = (PLAIN,) * at + (bad,)
                self.assert_no_table((tables, ()), at)
                self.assert_no_table((tables + (bad,) * (15 - at), ()), at)
                self.assert_no_table((tables + (PLAIN,) * 20, ()), at)

    def test_too_many_tables(self):
        self.assertEqual(run(((PLAIN,) * 16, ()), (1,), 0), ((1,), 0))
        for many in (17, 18, 40):
            self.assert_no_table(((PLAIN,) * many, ()), 16)
            for bad in ((), PLAIN[:255]):
                for at in range(16):
                    tables = (PLAIN,) * at + (bad,) + (PLAIN,) * (many - 1 - at)
                    self.assert_no_table((tables, ()), at)
                self.assert_no_table(((PLAIN,) * 16 + (bad,) * (many - 16), ()), 16)

    def test_no_table_ahead_of_no_row(self):
        for at in (0, 1, 2):
            tables = (PLAIN,) * at + ((),)
            self.assert_no_table((tables, (("none", 1, 2),)), at)
            self.assert_no_table((tables, (("put", 0, 1),) * 9001), at)
        self.assert_no_table(((PLAIN,) * 17, (("put", 9, 9),)), 16)

    def bad_rows(self, cells, tables):
        """Rows that are none for so many cells and tables."""
        bounds = {"c": cells, "k": 256, "t": tables, "m": 2}
        for word, letters in NUMBERS.items():
            right = [bounds[letter] - 1 for letter in letters]
            yield (word,)
            yield (word, *right[:-1])
            yield (word, *right, 0)
            yield (word, *right, 0, 0)
            for at, letter in enumerate(letters):
                for number in (bounds[letter], bounds[letter] + 1, -1, -2, -256, 1000, 10 ** 39, -(10 ** 39)):
                    yield (word, *right[:at], number, *right[at + 1:])
        for word in ("", " ", "PUT", "Put", "put ", " put", "pu", "putt", "sub", "xor", "jump", "addcc", "not", "~"):
            for numbers in ((), (0,), (0, 0), (0, 0, 0)):
                yield (word, *numbers)

    def test_no_row(self):
        for many, tables in ((1, 1), (3, 2), (256, 16)):
            cells = (7,) * many
            right = (("put", many - 1, 255), ("look", many - 1, tables - 1), ("mark", 1))
            self.assertEqual(run(((PLAIN,) * tables, right), cells, 0)[1], 1)
            for bad in self.bad_rows(many, tables):
                for rows in ((bad,), (bad,) + right, (bad, bad)):
                    self.assert_no_row(((PLAIN,) * tables, rows), 0, cells)
                self.assert_no_row(((PLAIN,) * tables, right + (bad,)), 3, cells)
                self.assert_no_row(((PLAIN,) * tables, right + (bad, bad) + right), 3, cells)

    def test_a_table_that_is_not_there(self):
        for many in range(16):
            for table in (many, many + 1, 15, 16, -1):
                if not 0 <= table < many:
                    self.assert_no_row(((PLAIN,) * many, (("mark", 0), ("look", 0, table))), 1)

    def test_a_cell_that_is_not_there(self):
        for many in (1, 2, 255, 256):
            for word in TWO_CELLS:
                for row in ((word, many, 0), (word, 0, many), (word, many, many)):
                    self.assert_no_row(((), (row,)), 0, (0,) * many)
            for row in (("left", many), ("right", many), ("put", many, 0)):
                self.assert_no_row(((), (row,)), 0, (0,) * many)

    def test_too_many_rows(self):
        right = ("add", 0, 1)
        self.assertEqual(run(((), (right,) * 9000), (0, 1), 0)[0], (9000 % 256, 1))
        for many in (9001, 9002, 12000):
            self.assert_no_row(((), (right,) * many), 9000)
        for bad in (("add", 0), ("put", 0, 256), ("none",)):
            self.assert_no_row(((), (right,) * 9000 + (bad,)), 9000)
            for at in (0, 1, 4500, 8999):
                self.assert_no_row(((), (right,) * at + (bad,) + (right,) * 9000), at)


if __name__ == "__main__":
    unittest.main()
