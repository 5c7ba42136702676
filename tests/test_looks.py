"""Papers looked at: [37]."""

import itertools
import random
import unittest

from oracle import MODES
from plain_papers import rounding_paper, sixes_paper, tries_paper
from tensloft.errors import NoFit, NoRule, Nought, TooLong
from tensloft.looks import rounding_holds, sixes_hold, tries_hold

RULES = tuple(MODES)


def deep(many):
    thing = ()
    for step in range(many):
        thing = (thing,)
    return thing


THINGS = (None, True, False, 0, 1, -1, 10 ** 39, "", "none", "nine", "(", (), (()), ((),), ((), ()), (None,), (0,), (True,),
          (0, 0, 0, 0, ()), ("sixes",), ((0, 0, 0, 0), ()), deep(400))


def other_leaves(leaf):
    """Other things for a part that is no tuple: beside it, of another kind, the truth or the number that is like it."""
    if type(leaf) is bool:
        return [not leaf, int(leaf), int(not leaf), None, str(leaf), (leaf,), ()]
    if type(leaf) is int:
        others = [leaf + 1, leaf - 1, -leaf - 1, str(leaf), None, (leaf,), ()]
        return others + ([bool(leaf)] if leaf in (0, 1) else [True])
    return [leaf + " ", leaf[:-1], leaf.upper(), "none" if leaf != "none" else "nine", None, 0, (leaf,), ()]


def amiss(paper):
    """All papers that differ in one part, or have a part more or less, at any depth."""
    for at, part in enumerate(paper):
        inner = amiss(part) if type(part) is tuple else other_leaves(part)
        for other in inner:
            yield paper[:at] + (other,) + paper[at + 1:]
        yield paper[:at] + paper[at + 1:]
        yield paper[:at] + (part,) + paper[at:]
        for more in (None, 0, True, ()):
            yield paper[:at] + (more,) + paper[at:]
    for more in (None, 0, False, "", ()):
        yield paper + (more,)


class LooksTest(unittest.TestCase):
    def setUp(self):
        self.rng = random.Random(self.id())

    def assert_looks(self, function, asked, paper):
        """True of the paper alone."""
        self.assertIs(function(*asked, paper), True, asked)
        for other in amiss(paper):
            self.assertIs(function(*asked, other), False, (asked, other))
        for other in THINGS:
            self.assertIs(function(*asked, other), False, (asked, other))

    def assert_refused(self, refusal, wanted, function, *asked):
        for thing in (*THINGS, (0, 0, 0, 0, ((0, 0, 0, 0, "none", 0, 0),))):
            with self.assertRaises(refusal, msg=asked) as held:
                function(*asked, thing)
            self.assertIs(type(held.exception), refusal)
            if refusal is not Nought:
                self.assertEqual(held.exception.rule if refusal is NoRule else held.exception.number, wanted)

    def test_sixes(self):
        for asked in ((1, 0, 0), (1, 9, 9), (1, 1, 0), (2, 57, 68), (3, 199, 876), (4, 1, 9999), (12, 10 ** 12 - 1, 1)):
            self.assert_looks(sixes_hold, asked, sixes_paper(*asked))

    def test_tries(self):
        for asked in ((0, 1), (1, 1), (9, 1), (95, 7), (1000, 3), (7, 10 ** 12 - 1), (123456, 789)):
            self.assert_looks(tries_hold, asked, tries_paper(*asked))

    def test_rounding(self):
        for number, by, rule in itertools.product((0, 1, 15, 25, -25, 1250, -1251, 10 ** 12 - 1, -10), (1, 2, 3, 12), RULES):
            self.assert_looks(rounding_holds, (number, by, rule), rounding_paper(number, by, rule))

    def test_the_paper_of_something_else(self):
        pairs = [(self.rng.randint(0, 999), self.rng.randint(1, 999)) for step in range(25)]
        for first, second in itertools.product(pairs, repeat=2):
            self.assertIs(sixes_hold(3, *first, sixes_paper(3, *second)), sixes_paper(3, *first) == sixes_paper(3, *second))
            self.assertIs(tries_hold(*first, tries_paper(*second)), tries_paper(*first) == tries_paper(*second))
            for rule in RULES:
                one, other = rounding_paper(first[0], 1, rule), rounding_paper(second[0], 1, rule)
                self.assertIs(rounding_holds(first[0], 1, rule, other), one == other)
        self.assertIs(sixes_hold(3, 12, 12, tries_paper(12, 12)), False)
        self.assertIs(sixes_hold(3, 12, 12, sixes_paper(2, 12, 12)), False)
        self.assertIs(tries_hold(12, 12, sixes_paper(2, 12, 12)), False)
        self.assertIs(rounding_holds(12, 1, "up", tries_paper(12, 12)), False)

    def test_refused_as_the_papers(self):
        for n in (0, -1, 13, 10 ** 39):
            self.assert_refused(TooLong, n, sixes_hold, n, -1, 10 ** 39)
        self.assert_refused(NoFit, -1, sixes_hold, 1, -1, 10)
        self.assert_refused(NoFit, 10, sixes_hold, 1, 10, -1)
        self.assert_refused(NoFit, 10, sixes_hold, 1, 9, 10)
        for one in (0, -1, 5, 10 ** 12):
            self.assert_refused(Nought, None, tries_hold, one, 0)
        self.assert_refused(NoFit, -1, tries_hold, -1, -2)
        self.assert_refused(NoFit, 10 ** 12, tries_hold, 10 ** 12, 1)
        self.assert_refused(NoFit, -2, tries_hold, 1, -2)
        self.assert_refused(NoFit, 10 ** 12, tries_hold, 1, 10 ** 12)
        for rule, by, number in itertools.product(("", "Cut", "nine"), (0, 1, 13), (0, 10 ** 12)):
            self.assert_refused(NoRule, rule, rounding_holds, number, by, rule)
        for rule, by, number in itertools.product(RULES, (0, -1, 13, 10 ** 39), (0, 10 ** 12)):
            self.assert_refused(TooLong, by, rounding_holds, number, by, rule)
        for rule, by, number in itertools.product(RULES, (1, 12), (10 ** 12, -(10 ** 12), 10 ** 39)):
            self.assert_refused(NoFit, number, rounding_holds, number, by, rule)


if __name__ == "__main__":
    unittest.main()
