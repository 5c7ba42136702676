"""Least words of a menu, looked for among all: [29] to [31]."""

import itertools
import random
import unittest

from plain_machine import NUMBERS, plain_step
from tensloft.errors import NoRow, NoTable
from tensloft.least import least, least_holds, listed

TURNED = tuple(range(1, 256)) + (0,)
SWAPPED = tuple(16 * (byte % 16) + byte // 16 for byte in range(256))
TABLES = (TURNED, SWAPPED)


def plain_state(tables, menu, starts, word):
    state = []
    for cells, mark in starts:
        work = list(cells)
        for number in word:
            mark = plain_step(tables, work, mark, menu[number])
        state.append((tuple(work), mark))
    return tuple(state)


def all_words(menu, most):
    """All words of at most so many rows, the least first."""
    for length in range(most + 1):
        yield from itertools.product(range(len(menu)), repeat=length)


def plain_listed(tables, menu, starts, most):
    firsts = {}
    for word in all_words(menu, most):
        firsts.setdefault(plain_state(tables, menu, starts, word), word)
    return tuple((word, state) for state, word in firsts.items())


def plain_least(tables, menu, cases, most):
    starts = tuple(case[:2] for case in cases)
    for word in all_words(menu, most):
        if does_all(cases, plain_state(tables, menu, starts, word)):
            return ("least", word)
    return ("none", plain_listed(tables, menu, starts, most))


def does_all(cases, state):
    return [cells[0] for cells, mark in state] == [wanted for cells, mark, wanted in cases]


def plain_holds(tables, menu, cases, most, told):
    """[31], word by word; things are compared by their texts, which tell truths from numbers."""
    if type(told) is not tuple or len(told) != 2 or told[0] not in ("least", "none"):
        return False
    if told[0] == "least":
        return repr(told) == repr(plain_least(tables, menu, cases, most))
    pairs = told[1]
    if type(pairs) is not tuple or any(type(pair) is not tuple or len(pair) != 2 for pair in pairs):
        return False
    if not pairs or pairs[0][0] != ():
        return False
    starts = tuple(case[:2] for case in cases)
    words = {repr(word) for word in all_words(menu, most)}
    for word, state in pairs:
        if repr(word) not in words or repr(plain_state(tables, menu, starts, word)) != repr(state):
            return False
        if does_all(cases, state):
            return False
    for word, state in pairs:
        if len(word) < most:
            for number in range(len(menu)):
                behind = plain_state(tables, menu, starts, word + (number,))
                if not any(other == behind and len(second) <= len(word) + 1 for second, other in pairs):
                    return False
    return True


def all_rows(cells, tables):
    """Every row of the machine for so many cells, with some bytes."""
    numbers = {"c": range(cells), "k": (0, 1, 128, 255), "t": range(tables), "m": (0, 1)}
    for word, letters in NUMBERS.items():
        for chosen in itertools.product(*[numbers[letter] for letter in letters]):
            yield (word, *chosen)


class LeastTest(unittest.TestCase):
    def setUp(self):
        self.rng = random.Random(self.id())
        self.rows = list(all_rows(2, 2))

    def drawn_menu(self, cells=2):
        rows = list(all_rows(cells, 2))
        return tuple(self.rng.choice(rows) for step in range(self.rng.randint(1, 4)))

    def drawn_starts(self, cells=2):
        return tuple((tuple(self.rng.choice((0, 1, 2, 127, 128, 255, self.rng.randrange(256))) for cell in range(cells)),
                      self.rng.randint(0, 1)) for step in range(self.rng.randint(1, 5)))

    def drawn_cases(self, menu, cells=2):
        """Cases that a word of the menu does, or that perhaps none does."""
        starts = self.drawn_starts(cells)
        word = [self.rng.randrange(len(menu)) for step in range(self.rng.randint(0, 4))]
        state = plain_state(TABLES, menu, starts, word)
        amiss = self.rng.choice((0, 0, 1))
        return tuple((*start, behind[0][0] ^ amiss) for start, behind in zip(starts, state))


class ListedTest(LeastTest):
    def assert_listed(self, menu, starts, most):
        told = listed(TABLES, menu, starts, most)
        self.assertEqual(repr(told), repr(plain_listed(TABLES, menu, starts, most)), (menu, starts, most))
        words = [word for word, state in told]
        self.assertEqual(words, sorted(words, key=lambda word: (len(word), word)))
        self.assertEqual(len({state for word, state in told}), len(told))
        self.assertEqual(told[0], ((), starts))

    def test_written_out(self):
        menu = (("left", 0), ("mark", 0))
        self.assertEqual(listed((), menu, (((1,), 1),), 2), (
            ((), (((1,), 1),)),
            ((0,), (((3,), 0),)),
            ((1,), (((1,), 0),)),
            ((0, 0), (((6,), 0),)),
            ((1, 0), (((2,), 0),)),
        ))
        self.assertEqual(listed((), (("copy", 0, 0),), (((5,), 0), ((6,), 1)), 4), (((), (((5,), 0), ((6,), 1))),))

    def test_each_row_of_the_machine(self):
        for row, most in itertools.product(self.rows, range(5)):
            self.assert_listed((row,), (((3, 200), 1), ((128, 255), 0)), most)

    def test_drawn_menus(self):
        for step in range(500):
            self.assert_listed(self.drawn_menu(), self.drawn_starts(), self.rng.randint(0, 4))

    def test_one_to_six_cells(self):
        for cells in (1, 2, 3, 4, 5, 6):
            for step in range(25):
                self.assert_listed(self.drawn_menu(cells), self.drawn_starts(cells), 3)

    def test_all_words_are_unlike(self):
        menu = (("left", 0), ("right", 1), ("addc", 0, 1), ("look", 1, 0))
        for most in range(5):
            self.assert_listed(menu, (((1, 77), 0), ((90, 3), 1), ((201, 130), 1)), most)

    def test_the_order_of_words(self):
        # Two rows alike: no word with the second of them is a least one.
        menu = (("add", 0, 1), ("add", 0, 1), ("put", 1, 7), ("mark", 1))
        told = listed((), menu, (((0, 1), 0),), 4)
        self.assertTrue(all(1 not in word for word, state in told))
        self.assert_listed(menu, (((0, 1), 0),), 4)


class LeastWordTest(LeastTest):
    def assert_least(self, menu, cases, most):
        told = least(TABLES, menu, cases, most)
        wanted = plain_least(TABLES, menu, cases, most)
        self.assertEqual(repr(told), repr(wanted), (menu, cases, most))
        return told[0]

    def test_written_out(self):
        menu = (("left", 0), ("mark", 0), ("add", 0, 0))
        self.assertEqual(least((), menu, (((1,), 1, 1),), 4), ("least", ()))
        self.assertEqual(least((), menu, (((1,), 1, 3),), 4), ("least", (0,)))
        self.assertEqual(least((), menu, (((1,), 1, 2),), 4), ("least", (2,)))
        self.assertEqual(least((), menu, (((1,), 1, 2), ((3,), 0, 6)), 4), ("least", (2,)))
        self.assertEqual(least((), menu, (((1,), 1, 6),), 4), ("least", (0, 0)))
        self.assertEqual(least((), menu, (((1,), 1, 9),), 0), ("none", (((), (((1,), 1),)),)))
        self.assertEqual(least((), menu[:2], (((1,), 0, 9),), 1), ("none", (((), (((1,), 0),)), ((0,), (((2,), 0),)))))

    def test_each_row_of_the_machine(self):
        for row, most, wanted in itertools.product(self.rows, (0, 1, 3), (3, 6, 7, 0)):
            self.assert_least((row,), (((3, 200), 1, wanted),), most)

    def test_drawn_menus(self):
        told = []
        for step in range(800):
            menu = self.drawn_menu()
            told.append(self.assert_least(menu, self.drawn_cases(menu), self.rng.randint(0, 4)))
        self.assertGreater(told.count("least"), 100)
        self.assertGreater(told.count("none"), 100)

    def test_one_to_six_cells(self):
        for cells in (1, 2, 3, 4, 5, 6):
            for step in range(25):
                menu = self.drawn_menu(cells)
                self.assert_least(menu, self.drawn_cases(menu, cells), 3)


class HoldsTest(LeastTest):
    MENU = (("left", 0), ("addc", 0, 1), ("look", 1, 0))
    CASES = (((3, 200), 1, 250), ((128, 255), 0, 251))

    def assert_holds(self, menu, cases, most, told, wanted=None):
        held = least_holds(TABLES, menu, cases, most, told)
        if wanted is not None:
            self.assertIs(held, wanted, (menu, cases, most, told))
        self.assertIs(held, plain_holds(TABLES, menu, cases, most, told), (menu, cases, most, told))
        return held

    def amiss(self, pairs):
        """Papers with one thing amiss."""
        for at, (word, state) in enumerate(pairs):
            def put(*parts):
                return pairs[:at] + parts + pairs[at + 1:]

            yield put()
            yield put((word, state), (word, state))
            for other in (word + (0,), word[1:], (9,), (3,), (-1,), word[:-1] + (3,), word + (True,), tuple(bool(number) for number in word),
                          "word", None, 0, ("0",), ((),), (None,), word + (9,), (0,) * 5, tuple(str(k) for k in word)):
                yield put((other, state))
            (cells, mark), *rest = state
            for other in (((cells[0] ^ 1,) + cells[1:], mark), (cells, 1 - mark), (cells[1:], mark), (cells + (0,), mark),
                          (cells, bool(mark)), (cells, str(mark)), (cells, None), (cells,), (cells, mark, 0), cells, "state",
                          (tuple(str(byte) for byte in cells), mark), ((cells,), mark), None, ()):
                yield put((word, (other, *rest)))
            for other in (state[1:], state + state[:1], state[::-1], (), None, "none", 0, True, (state,)):
                yield put((word, other))
            for other in (word, state, (word,), (word, state, 0), (state, word), None, 0, False, "pair", (), ((), ())):
                yield put(other)

    def test_the_paper_that_is_due(self):
        for step in range(400):
            menu = self.drawn_menu()
            cases, most = self.drawn_cases(menu), self.rng.randint(0, 4)
            self.assert_holds(menu, cases, most, least(TABLES, menu, cases, most), True)

    def test_papers_with_one_thing_amiss(self):
        for most in (0, 1, 2, 3):
            what, pairs = least(TABLES, self.MENU, self.CASES, most)
            self.assertEqual(what, "none")
            for other in self.amiss(pairs):
                self.assert_holds(self.MENU, self.CASES, most, ("none", other))
            for at in range(1, len(pairs)):
                lacking = pairs[:at] + pairs[at + 1:]
                self.assert_holds(self.MENU, self.CASES, most, ("none", lacking), False)
                swapped = (pairs[at],) + pairs[1:at] + pairs[:1] + pairs[at + 1:]
                self.assert_holds(self.MENU, self.CASES, most, ("none", swapped), False)

    def test_truths_for_numbers(self):
        menu, cases = (("mark", 1), ("left", 0)), (((1,), 0, 9), ((0,), 1, 9))
        what, pairs = least((), menu, cases, 2)
        self.assertEqual(what, "none")
        self.assertIs(least_holds((), menu, cases, 2, (what, pairs)), True)
        for at, (word, state) in enumerate(pairs):
            others = [tuple(bool(number) for number in word)] if word else []
            states = [tuple((tuple(bool(byte) if byte < 2 else byte for byte in cells), mark) for cells, mark in state),
                      tuple((cells, bool(mark)) for cells, mark in state)]
            for other in [(wrong, state) for wrong in others] + [(word, wrong) for wrong in states if repr(wrong) != repr(state)]:
                self.assertIs(least_holds((), menu, cases, 2, ("none", pairs[:at] + (other,) + pairs[at + 1:])), False)
        self.assertEqual(least((), menu, (((1,), 0, 3),), 2), ("least", (0, 1)))
        for word in ((False, True), (0, True), (False, 1)):
            self.assertIs(least_holds((), menu, (((1,), 0, 3),), 2, ("least", word)), False)

    def test_pairs_in_another_order_and_states_twice(self):
        held = 0
        for step in range(300):
            menu = self.drawn_menu()
            cases, most = self.drawn_cases(menu), self.rng.randint(0, 3)
            what, pairs = least(TABLES, menu, cases, most)
            if what == "none":
                starts = tuple(case[:2] for case in cases)
                others = list(pairs[1:])
                for word in self.rng.choices(list(all_words(menu, most)), k=3):
                    others.append((word, plain_state(TABLES, menu, starts, word)))
                self.rng.shuffle(others)
                held += self.assert_holds(menu, cases, most, ("none", pairs[:1] + tuple(others)), True)
        self.assertGreater(held, 60)

    def test_longer_words_beside_states(self):
        # Every state has a longer word, too: with it in the place of the least one the
        # paper holds just where no word asks for a shorter one.
        wanted = []
        for step in range(500):
            menu = self.drawn_menu()
            cases, most = self.drawn_cases(menu), self.rng.randint(1, 4)
            what, pairs = least(TABLES, menu, cases, most)
            if what == "none" and len(pairs) > 1:
                starts = tuple(case[:2] for case in cases)
                at = self.rng.randrange(1, len(pairs))
                longer = [word for word in all_words(menu, most)
                          if plain_state(TABLES, menu, starts, word) == pairs[at][1] and word != pairs[at][0]]
                if longer:
                    other = (self.rng.choice(longer), pairs[at][1])
                    told = ("none", pairs[:at] + (other,) + pairs[at + 1:])
                    wanted.append(self.assert_holds(menu, cases, most, told))
        self.assertGreater(wanted.count(True), 5)
        self.assertGreater(wanted.count(False), 5)

    def test_all_words_hold_where_none_does_it(self):
        for most in range(4):
            starts = tuple(case[:2] for case in self.CASES)
            pairs = tuple((word, plain_state(TABLES, self.MENU, starts, word)) for word in all_words(self.MENU, most))
            self.assert_holds(self.MENU, self.CASES, most, ("none", pairs), True)
            self.assert_holds(self.MENU, self.CASES, most, ("none", pairs[:1] + pairs[:0:-1]), True)
            if most:
                self.assert_holds(self.MENU, self.CASES, most, ("none", pairs[::-1]), False)
                self.assert_holds(self.MENU, self.CASES, most - 1, ("none", pairs), False)
                self.assert_holds(self.MENU, self.CASES, most + 1, ("none", pairs), False)

    def test_other_words_than_the_least(self):
        menu = (("left", 0), ("mark", 0), ("add", 0, 0))
        cases = (((1, 0), 1, 6),)
        due = least(TABLES, menu, cases, 4)[1]
        for word in all_words(menu, 4):
            self.assert_holds(menu, cases, 4, ("least", word), word == due)
        for thing in (None, True, 0, "", "least", due + (0,), (due,), list(due), ((), ()), tuple(str(k) for k in due)):
            self.assert_holds(menu, cases, 4, ("least", thing), False)
        starts = tuple(case[:2] for case in cases)
        pairs = listed(TABLES, menu, starts, 4)
        self.assert_holds(menu, cases, 4, ("none", pairs), False)
        self.assert_holds(menu, cases, 4, ("none", pairs[:1]), False)
        self.assert_holds(menu, cases, 4, ("none", tuple(pair for pair in pairs if not does_all(cases, pair[1]))), False)

    def test_papers_of_other_kinds(self):
        what, pairs = least(TABLES, self.MENU, self.CASES, 2)
        things = (None, True, False, 0, 1, "", "none", "least", (), ((),), ("none",), ("least",), ("none", ()), ("none", None),
                  ("none", "none"), ("none", ((),)), ("none", pairs, ()), ("none", (pairs,)), (pairs, "none"), pairs,
                  ("None", pairs), ("none ", pairs), (None, pairs), (True, pairs), ("least", pairs), ("least", ()),
                  ("least", None), ("none", pairs[0]), ("none", (pairs[0][0], pairs[0][1])), (("none", pairs),),
                  (0, pairs), ((), pairs), ("none", True), ("none", 0), ("none", (None,)), ("none", ("a", "b")))
        for thing in things:
            self.assert_holds(self.MENU, self.CASES, 2, thing, False)
        thing = ()
        for step in range(400):
            thing = (thing,)
        for other in (thing, ("none", thing), ("least", thing), ("none", ((thing, thing),)), (thing, thing)):
            self.assertIs(least_holds(TABLES, self.MENU, self.CASES, 2, other), False)


class RefusedTest(LeastTest):
    def assert_refused(self, refusal, at, tables, menu, cells):
        starts = ((cells, 0), (cells, 1))
        cases = ((cells, 0, 5), (cells, 1, 6))
        for most in (0, 1, 4):
            askings = [lambda: listed(tables, menu, starts, most), lambda: least(tables, menu, cases, most)]
            for told in (None, (), ("none", ()), ("least", ()), ("none", (((), starts),)), "none"):
                askings.append(lambda: least_holds(tables, menu, cases, most, told))
            for asking in askings:
                with self.assertRaises(refusal) as held:
                    asking()
                self.assertEqual(held.exception.at, at)
                self.assertIs(type(held.exception.at), int)

    def test_no_table(self):
        good = TURNED
        menu = (("look", 0, 0),)
        for wrong in (good[:255], good + (0,), (), good[:255] + (256,), (-1,) + good[1:]):
            for at in (0, 1, 3):
                tables = (good,) * at + (wrong,) + (good,) * 2
                self.assert_refused(NoTable, at, tables, menu, (0,))
                self.assert_refused(NoTable, at, tables, (("look", 0, 99), ("none",)), (0,))
                self.assert_refused(NoTable, at, tables + (wrong,), menu, (0,))
        self.assert_refused(NoTable, 16, (good,) * 17, menu, (0,))
        self.assert_refused(NoTable, 5, (good,) * 5 + ((),) + (good,) * 12, menu, (0,))

    def test_no_row(self):
        good = ("add", 0, 0)
        for cells in ((0,), (1, 2), (1, 2, 3, 4, 5, 6)):
            many = len(cells)
            for wrong in (("put", many, 0), ("put", 0, 256), ("put", 0, -1), ("copy", 0, many), ("copy", many, 0), ("add", -1, 0),
                          ("left", many), ("right", -1), ("look", 0, 2), ("look", 0, -1), ("mark", 2), ("mark", -1), ("mark",),
                          ("mark", 0, 0), ("add", 0), ("add", 0, 0, 0), ("left",), ("sub", 0, 0), ("", 0), ("Add", 0, 0)):
                for at in range(4):
                    menu = (good,) * at + (wrong,) * (4 - at)
                    self.assert_refused(NoRow, at, TABLES, menu, cells)


if __name__ == "__main__":
    unittest.main()
