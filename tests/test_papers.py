"""Papers: [34] to [36]."""

import itertools
import random
import unittest

from oracle import LENGTHS, MODES
from plain_papers import rounding_paper, sixes_paper, tries_paper
from tensloft.errors import NoFit, NoRule, Nought, TooLong
from tensloft.papers import rounding, sixes, tries

RULES = tuple(MODES)
FAR = (10 ** 12, 10 ** 12 + 1, 10 ** 13, 10 ** 39, 10 ** 40 - 1)


class PaperTest(unittest.TestCase):
    def setUp(self):
        self.rng = random.Random(self.id())

    def assert_paper(self, told, wanted, asked):
        # The texts of tuples tell truths from numbers, and tuples from lists.
        self.assertEqual(repr(told), repr(wanted), asked)

    def assert_refused(self, refusal, field, wanted, function, *asked):
        with self.assertRaises(refusal, msg=asked) as held:
            function(*asked)
        self.assertIs(type(held.exception), refusal, asked)
        if field is not None:
            self.assertEqual(getattr(held.exception, field), wanted, asked)


class SixesTest(PaperTest):
    def numbers(self, n):
        nines = int("9" * n)
        asked = [0, 1, nines, nines // 2, 5 * 10 ** (n - 1), 10 ** (n - 1), 8 * (nines // 9), 7 * (nines // 9)]
        asked += [int("1234567890123"[:n]), int("9070503010204"[:n]), nines - 1, 5 * (nines // 9), 4 * (nines // 9)]
        return sorted({number for number in asked if number <= nines} | {self.rng.randint(0, nines) for _ in range(4)})

    def test_written_out(self):
        self.assert_paper(
            sixes(3, 199, 876),
            (0x199 + 0x876, 0x666, 0x075, 1,
             ((9, 6, 0, 15, "nine", 5, 1), (9, 7, 1, 17, "carry", 7, 1), (1, 8, 1, 10, "nine", 0, 1))),
            "199 and 876")
        self.assert_paper(sixes(1, 4, 5), (9, 0, 9, 0, ((4, 5, 0, 9, "none", 9, 0),)), "4 and 5")
        self.assert_paper(sixes(1, 8, 8), (16, 6, 6, 1, ((8, 8, 0, 16, "carry", 6, 1),)), "8 and 8")
        self.assert_paper(sixes(1, 8, 7), (15, 6, 5, 1, ((8, 7, 0, 15, "nine", 5, 1),)), "8 and 7")
        self.assert_paper(sixes(2, 0, 0), (0, 0, 0, 0, ((0, 0, 0, 0, "none", 0, 0), (0, 0, 0, 0, "none", 0, 0))), "0")
        self.assert_paper(sixes(2, 50, 49), (0x99, 0, 0x99, 0, ((0, 9, 0, 9, "none", 9, 0), (5, 4, 0, 9, "none", 9, 0))),
                          "50 and 49")

    def test_every_length(self):
        for n in LENGTHS:
            for one, other in itertools.product(self.numbers(n), repeat=2):
                told = sixes(n, one, other)
                self.assert_paper(told, sixes_paper(n, one, other), (n, one, other))
                plain, added, right, carry, lines = told
                self.assertEqual(plain + added, right + carry * 16 ** n)
                self.assertEqual(added, sum(6 * 16 ** i for i, line in enumerate(lines) if line[4] != "none"))

    def test_every_pair_of_few_figures(self):
        for one, other in itertools.product(range(100), repeat=2):
            self.assert_paper(sixes(2, one, other), sixes_paper(2, one, other), (one, other))
        for one, other in itertools.product(range(10), repeat=2):
            self.assert_paper(sixes(1, one, other), sixes_paper(1, one, other), (one, other))

    def test_too_long(self):
        for n in (0, -1, 13, 14, 40, 10 ** 39, -(10 ** 39)):
            for one, other in itertools.product((0, 5, -1, 10 ** 39), repeat=2):
                self.assert_refused(TooLong, "number", n, sixes, n, one, other)

    def test_no_fit(self):
        for n in LENGTHS:
            beyond = (-1, -2, 10 ** n, 10 ** n + 1, -(10 ** n), 10 ** 39, -(10 ** 39))
            good = (0, 1, 10 ** n - 1)
            for one, other in itertools.product(beyond, good):
                self.assert_refused(NoFit, "number", one, sixes, n, one, other)
                self.assert_refused(NoFit, "number", one, sixes, n, other, one)
            for one, other in itertools.product(beyond, repeat=2):
                self.assert_refused(NoFit, "number", one, sixes, n, one, other)


class TriesTest(PaperTest):
    def test_written_out(self):
        self.assert_paper(
            tries(95, 7),
            ((9, ((8, 56, False), (4, 28, False), (2, 14, False), (1, 7, True)), 1, 2),
             (25, ((8, 56, False), (4, 28, False), (2, 14, True), (1, 7, True)), 3, 4)),
            "95 by 7")
        self.assert_paper(tries(0, 3), ((0, ((8, 24, False), (4, 12, False), (2, 6, False), (1, 3, False)), 0, 0),), "0")
        self.assert_paper(tries(9, 1), ((9, ((8, 8, True), (4, 4, False), (2, 2, False), (1, 1, True)), 9, 0),), "9 by 1")
        self.assert_paper(tries(7, 1), ((7, ((8, 8, False), (4, 4, True), (2, 2, True), (1, 1, True)), 7, 0),), "7 by 1")

    def test_small_numbers(self):
        for one, other in itertools.product(range(0, 130), range(1, 40)):
            self.assert_paper(tries(one, other), tries_paper(one, other), (one, other))

    def test_every_length(self):
        sizes = [10 ** k + d for k in range(12) for d in (-1, 0, 1)] + [10 ** 12 - 1, 123456789012, 907050301020]
        sizes += [self.rng.randint(1, 10 ** self.rng.randint(1, 12) - 1) for step in range(30)]
        for one, other in itertools.product(sorted(set(sizes)), repeat=2):
            if other > 0:
                told = tries(one, other)
                self.assert_paper(told, tries_paper(one, other), (one, other))
                self.assertEqual(len(told), len(str(one)))
                self.assertEqual(int("".join(str(line[2]) for line in told)), one // other)
                self.assertEqual(told[-1][3], one % other)

    def test_by_nought(self):
        for one in (0, 1, 10 ** 12 - 1, -1, *FAR):
            self.assert_refused(Nought, None, None, tries, one, 0)

    def test_no_fit(self):
        beyond = (-1, -2, -(10 ** 12), *FAR)
        for one, other in itertools.product(beyond, (1, 7, 10 ** 12 - 1, *beyond)):
            self.assert_refused(NoFit, "number", one, tries, one, other)
        for one, other in itertools.product((0, 1, 10 ** 12 - 1), beyond):
            self.assert_refused(NoFit, "number", other, tries, one, other)


class RoundingTest(PaperTest):
    def test_written_out(self):
        for asked, wanted in (
            ((1250, 2, "even"), (12, 5, False, False, False, False, 12)),
            ((1350, 2, "even"), (13, 5, False, True, False, True, 14)),
            ((1251, 2, "even"), (12, 5, True, False, False, True, 13)),
            ((-1250, 2, "half"), (12, 5, False, False, True, True, -13)),
            ((-1201, 2, "floor"), (12, 0, True, False, True, True, -13)),
            ((-1201, 2, "ceil"), (12, 0, True, False, True, False, -12)),
            ((7, 3, "up"), (0, 0, True, False, False, True, 1)),
            ((-7, 3, "cut"), (0, 0, True, False, True, False, 0)),
            ((0, 12, "up"), (0, 0, False, False, False, False, 0)),
            ((19, 1, "cut"), (1, 9, False, True, False, False, 1)),
            ((999999999999, 12, "half"), (0, 9, True, False, False, True, 1)),
        ):
            self.assert_paper(rounding(*asked), wanted, asked)

    def test_every_length_and_rule(self):
        for by, rule in itertools.product(LENGTHS, RULES):
            whole = 10 ** by
            rests = (0, 1, whole // 10, whole // 2 - 1, whole // 2, whole // 2 + 1, whole - 1)
            numbers = [q * whole + rest for q in (0, 1, 2, 3, 8, 9, 10, 99) for rest in rests]
            numbers += [10 ** 12 - 1, 10 ** 12 - whole, 123456789012, 5 * 10 ** 11, 1, 9, 10, 15, 25]
            numbers += [self.rng.randint(0, 10 ** 12 - 1) for step in range(20)]
            for number in numbers:
                if number < 10 ** 12:
                    self.assert_paper(rounding(number, by, rule), rounding_paper(number, by, rule), (number, by, rule))
                    self.assert_paper(rounding(-number, by, rule), rounding_paper(-number, by, rule), (-number, by, rule))

    def test_small_numbers(self):
        for number, by, rule in itertools.product(range(-320, 321), (1, 2, 3), RULES):
            self.assert_paper(rounding(number, by, rule), rounding_paper(number, by, rule), (number, by, rule))

    def test_no_rule(self):
        for rule in ("", "Cut", "UP", "half ", " even", "flour", "ceiling", "down", "none", "cut up", "~"):
            for number, by in itertools.product((0, 15, -(10 ** 12), 10 ** 39), (1, 12, 0, 13, -1, 10 ** 39)):
                self.assert_refused(NoRule, "rule", rule, rounding, number, by, rule)

    def test_too_long(self):
        for by, rule in itertools.product((0, -1, -12, 13, 14, 40, 10 ** 39, -(10 ** 39)), RULES):
            for number in (0, 15, 10 ** 12, -(10 ** 12), 10 ** 39):
                self.assert_refused(TooLong, "number", by, rounding, number, by, rule)

    def test_no_fit(self):
        for by, rule, size in itertools.product(LENGTHS, RULES, FAR):
            self.assert_refused(NoFit, "number", size, rounding, size, by, rule)
            self.assert_refused(NoFit, "number", -size, rounding, -size, by, rule)


if __name__ == "__main__":
    unittest.main()
