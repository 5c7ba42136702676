"""The desk: [38] to [40]."""

import itertools
import random
import unittest

from oracle import KINDS, MODES, SIGNS, all_shapes, ends, halves_text, kept_row, spellings
from plain_desk import PlainDesk
from tensloft import errors
from tensloft.desk import Desk
from tensloft.errors import LoftError
from trial import good_numbers

RULES = tuple(MODES)
FIELDS = {"NoName": ("name",), "NoShape": ("part",), "TooLong": ("number",), "NoFit": ("number",), "Wrong": ("place", "why")}


def told_by(desk, line):
    """("told", answer), or the name of the refusal and its fields."""
    try:
        return ("told", desk.tell(line))
    except LoftError as refusal:
        name = type(refusal).__name__
        assert type(refusal) is getattr(errors, name)
        return (name, *[getattr(refusal, field) for field in FIELDS.get(name, ())])


def spaced(row):
    text = halves_text(row)
    return " ".join(text[at:at + 2] for at in range(0, len(text), 2))


def pointed(shape, number):
    """A text of the number with its point."""
    size = str(abs(number)).rjust(shape[3] + 1, "0")
    at = len(size) - shape[3]
    return ("-" if number < 0 else "") + size[:at] + ("." + size[at:] if shape[3] else "")


def worded(shape):
    return " ".join(str(part) for part in shape)


class DeskTest(unittest.TestCase):
    def setUp(self):
        self.rng = random.Random(self.id())
        self.fresh()

    def fresh(self):
        self.desk, self.plain = Desk(), PlainDesk()

    def tell(self, *lines):
        """Tells both desks lines that they must answer alike; the last answer."""
        for line in lines:
            told = told_by(self.desk, line)
            self.assertEqual(repr(told), repr(self.plain.told(line)), line)
        return told

    def assert_told(self, line, *wanted):
        self.assertEqual(self.tell(line), wanted, line)

    def assert_alike(self):
        """Both desks show the same, name by name."""
        self.tell("names")
        for name in sorted(self.plain.pictures[self.plain.at]):
            self.tell(f"show {name}", f"bytes {name}", f"shape {name}")

    def assert_refused(self, line, *wanted):
        """The refusal, and nothing is changed by it: not even what may be done again."""
        before = self.picture()
        self.assert_told(line, *wanted)
        self.assertEqual(self.picture(), before, line)

    def picture(self):
        names = self.desk.tell("names").split(" ")
        return [(name, told_by(self.desk, f"bytes {name}"), told_by(self.desk, f"shape {name}")) for name in names]


class LinesTest(DeskTest):
    def test_a_desk_at_first(self):
        self.assert_told("names", "told", "none")
        self.assert_refused("undo", "NothingDone")
        self.assert_refused("again", "NothingDone")
        self.assert_refused("show a", "NoName", "a")

    def test_each_line_written_out(self):
        for line, wanted in (
            ("keep price packed 5 end 2 12.50", "done"),
            ("keep paid packed 5 end 2 -20", "done"),
            ("sum left price paid", "0"),
            ("show left", "-7.50"),
            ("bytes left", "00 75 0D"),
            ("shape left", "packed 5 end 2"),
            ("less left price paid", "0"),
            ("show left", "32.50"),
            ("order paid price", "less"),
            ("order price paid", "greater"),
            ("order price price", "alike"),
            ("times left price price", "0"),
            ("show left", "156.2500"),
            ("shape left", "packed 10 end 4"),
            ("keep few packed 3 end 1 2.5", "done"),
            ("times left price few", "0"),
            ("show left", "31.250"),
            ("shape left", "packed 8 end 3"),
            ("over quotient rest price few", "0"),
            ("show quotient", "0.50"),
            ("show rest", "0.0"),
            ("shape quotient", "packed 5 end 2"),
            ("shape rest", "packed 3 end 1"),
            ("move left price -1 half", "0"),
            ("show left", "1.25"),
            ("move left price 2 cut", "1"),
            ("show left", "250.00"),
            ("turn left paid spread 4 tens 0", "0"),
            ("show left", "-2000"),
            ("bytes left", "F8 F0 F0 F0"),
            ("turn left paid spread 4 none 1", "1"),
            ("show left", "800.0"),
            ("lay zero packed 2 end 1 00 0B", "done"),
            ("bytes zero", "00 0B"),
            ("show zero", "0.0"),
            ("look packed 2 end 1 00 0B", "good"),
            ("look packed 2 end 1 00 09", "wrong 3 sign"),
            ("look packed 2 end 1 00", "wrong 2 length"),
            ("twos price 2", "04 E2 : 0"),
            ("twos price 1", "E2 : 1"),
            ("twos paid 4", "FF FF F8 30 : 0"),
            ("names", "few left paid price quotient rest zero"),
            ("drop few", "done"),
            ("names", "left paid price quotient rest zero"),
            ("undo", "done"),
            ("names", "few left paid price quotient rest zero"),
            ("again", "done"),
            ("names", "left paid price quotient rest zero"),
        ):
            self.assert_told(line, "told", wanted)

    def test_keep_show_and_bytes_of_every_shape(self):
        for kind, n, sign, point in all_shapes():
            for point in sorted({0, 1, n // 2, n}):
                self.fresh()
                shape = (kind, n, sign, point)
                for number in good_numbers(shape):
                    self.tell(f"keep a {worded(shape)} {pointed(shape, number)}")
                    self.assert_told("show a", "told", pointed(shape, number))
                    self.assert_told("bytes a", "told", spaced(kept_row(shape, number)))
                    for row in spellings(shape, number):
                        self.assert_told(f"lay b {worded(shape)} {spaced(row)}", "told", "done")
                        self.assert_told("bytes b", "told", spaced(row))
                        self.assert_told("show b", "told", pointed(shape, number))
                        self.assert_told("order a b", "told", "alike")
                        self.assert_told(f"look {worded(shape)} {spaced(row)}", "told", "good")
                    self.assert_told("shape b", "told", worded(shape))

    def test_deeds_of_every_kind_and_sign(self):
        for kind, sign in itertools.product(KINDS, SIGNS):
            for one, other in (((kind, 3, sign, 1), (kind, 3, sign, 1)), ((kind, 6, sign, 0), (kind, 3, sign, 3)),
                               ((kind, 1, sign, 0), (kind, 1, sign, 1)), ((kind, 6, sign, 6), (kind, 6, sign, 0))):
                for first, second in itertools.product(good_numbers(one)[::2], good_numbers(other)[::2]):
                    self.fresh()
                    self.tell(f"keep a {worded(one)} {pointed(one, first)}", f"keep b {worded(other)} {pointed(other, second)}")
                    for deed in ("sum", "less", "times", "over d"):
                        self.tell(f"{deed} c a b")
                        self.assert_alike()
                    self.tell("order a b")

    def test_moves_and_turns(self):
        for shape in all_shapes((1, 3, 12)):
            for number in good_numbers(shape)[::3]:
                self.fresh()
                self.tell(f"keep a {worded(shape)} {number}")
                for by, rule in itertools.product(range(-12, 13), RULES):
                    self.tell(f"move b a {by} {rule}", "show b")
                for other in all_shapes((1, 4)):
                    self.tell(f"turn b a {worded(other)}", "show b", "bytes b")
                for many in "1234":
                    self.tell(f"twos a {many}")

    def test_names_among_one_and_other(self):
        for names in itertools.product("abc", repeat=3):
            for deed in ("sum", "less", "times"):
                self.fresh()
                self.tell("keep a packed 3 end 1 12.5", "keep b packed 3 end 1 -3.7", f"{deed} {' '.join(names)}")
                self.assert_alike()
                self.tell("undo")
                self.assert_alike()
                self.tell("again")
                self.assert_alike()
        for names in itertools.product("abcd", repeat=4):
            self.fresh()
            self.tell("keep a packed 3 end 1 12.5", "keep b packed 2 end 1 -3.7", f"over {' '.join(names)}")
            self.assert_alike()
            self.tell("undo")
            self.assert_alike()
            self.tell("again")
            self.assert_alike()
        for names in itertools.product("ab", repeat=2):
            for rest in ("move {} {} -1 up", "turn {} {} spread 5 tens 0"):
                self.fresh()
                self.tell("keep a packed 3 end 1 12.5", rest.format(*names))
                self.assert_alike()
                self.tell("undo")
                self.assert_alike()
        self.fresh()
        self.tell("keep a packed 3 end 1 12.5", "keep a spread 1 tens 0 -5", "show a", "lay a packed 1 none 0 07", "show a",
                  "undo", "show a", "undo", "show a", "undo", "names", "again", "again", "again", "show a", "shape a")

    def test_names_are_sorted(self):
        names = ["b", "ab", "a", "abc", "zz", "z", "aa", "none", "sum", "keep", "abcdefghijkl", "ba", "y"]
        for name in names:
            self.tell(f"keep {name} packed 1 none 0 1")
        self.assert_told("names", "told", " ".join(sorted(names)))


class NoLineTest(DeskTest):
    GOOD = (
        "keep a packed 3 end 1 12.5", "lay a packed 3 end 1 12 5C", "sum c a b", "less c a b", "times c a b",
        "over c d a b", "move c a -1 half", "turn c a spread 4 tens 0", "drop a", "undo", "again", "names", "show a",
        "bytes a", "shape a", "order a b", "look packed 3 end 1 12 5C", "twos a 2",
    )

    def setUp(self):
        DeskTest.setUp(self)
        self.tell("keep a packed 3 end 1 12.5", "keep b packed 3 end 1 -3.7", "keep e packed 1 none 0 1", "undo")

    def test_these_are_lines(self):
        for line in self.GOOD:
            self.fresh()
            self.tell("keep a packed 3 end 1 12.5", "keep b packed 3 end 1 -3.7", "keep e packed 1 none 0 1", "undo")
            self.assertEqual(self.tell(line)[0], "told", line)

    def test_words_and_blanks(self):
        for line in self.GOOD:
            words = line.split(" ")
            others = [" " + line, line + " ", line.upper(), line.capitalize(), line + " .", line + " a", ". " + line]
            for at in range(len(words)):
                others.append(" ".join(words[:at] + words[at + 1:]))
                others.append(" ".join(words[:at] + [words[at], words[at]] + words[at + 1:]))
                others.append(" ".join(words[:at] + [words[at] + " "] + words[at + 1:]))
                others.append(" ".join(words[:at] + [""] + words[at:]))
                for other in ("A", "a1", "1", "abcdefghijklm", "-", "~", "a-b", "_", "packed", "0", "00", "-1", "+1", "13", "up"):
                    others.append(" ".join(words[:at] + [other] + words[at + 1:]))
            for other in others:
                self.fresh()
                self.tell("keep a packed 3 end 1 12.5", "keep b packed 3 end 1 -3.7", "keep e packed 1 none 0 1", "undo")
                self.tell(other, "names", "again")
        for line in ("", " ", "  ", "keep", "sums a b b", "Sum c a b", "undo undo", "help", "names a", "tell", "none", "~", "0"):
            self.assert_refused(line, "NoLine")

    def test_a_blank_too_many(self):
        for line in self.GOOD:
            for at, sign in enumerate(line):
                if sign == " ":
                    self.assert_refused(line[:at] + " " + line[at:], "NoLine")
            self.assert_refused(" " + line, "NoLine")
            self.assert_refused(line + " ", "NoLine")

    def test_names_not_as_told(self):
        for name in ("A", "aB", "a1", "1a", "a-", "-a", "a_b", "a.", "abcdefghijklm", "a" * 13, "a" * 40, "~", "`", "{", "@", "["):
            for line in ("keep {} packed 3 end 1 1", "lay {} packed 1 none 0 01", "sum {} a b", "sum c {} b", "sum c a {}",
                         "less {} a b", "times c {} b", "over {} d a b", "over c {} a b", "over c d {} b", "over c d a {}",
                         "move {} a 1 up", "move c {} 1 up", "turn {} a packed 1 none 0", "turn c {} packed 1 none 0",
                         "drop {}", "show {}", "bytes {}", "shape {}", "order {} b", "order a {}", "twos {} 1"):
                self.assert_refused(line.format(name), "NoLine")
        for name in ("a", "z", "abcdefghijkl", "sum", "none", "zzzzzzzzzzzz"):
            self.assert_told(f"keep {name} packed 1 none 0 1", "told", "done")

    def test_shapes_not_as_told(self):
        for shape in ("Packed 3 end 1", "pack 3 end 1", "none 3 end 1", "packed 3 ends 1", "packed 3 packed 1", "packed 3 End 1",
                      "packed 03 end 1", "packed 3 end 01", "packed 00 end 0", "packed 3 end 00", "packed -1 end 0",
                      "packed 3 end -1", "packed +3 end 1", "packed 3 end +1", "packed 3.0 end 1", "packed 3 end 1.", "packed x end 1",
                      "packed 3 end x", "packed 3 1 end", "3 packed end 1", "packed 1_2 end 1", "packed - end 1", "packed 3 end -"):
            for line in ("keep c {} 1", "lay c {} 12 5C", "turn c a {}", "look {} 12 5C", "keep c {} x", "turn c unknown {}"):
                self.assert_refused(line.format(shape), "NoLine")

    def test_moves_rules_and_numbers_of_bytes_not_as_told(self):
        for by in ("13", "-13", "+1", "01", "-01", "-0", "00", "1.0", "x", "-", "--1", "100", "-100", "1" * 40, "1-", "12 "):
            self.assert_refused(f"move c a {by} up", "NoLine")
            self.assert_refused(f"move c unknown {by} up", "NoLine")
        for rule in ("Up", "UP", "down", "ups", "u", "1", "none", "half even", "~"):
            self.assert_refused(f"move c a 1 {rule}", "NoLine")
        for many in ("0", "5", "9", "01", "-1", "+1", "1.0", "12", "x", "~", "1" * 40):
            self.assert_refused(f"twos a {many}", "NoLine")
            self.assert_refused(f"twos unknown {many}", "NoLine")

    def test_one_name_for_quotient_and_rest(self):
        for name in ("a", "b", "c", "unknown"):
            self.assert_refused(f"over {name} {name} a b", "NoLine")
            self.assert_refused(f"over {name} {name} x y", "NoLine")


class RefusedTest(DeskTest):
    def setUp(self):
        DeskTest.setUp(self)
        self.tell("keep a packed 3 end 1 12.5", "keep b packed 3 end 1 -3.7", "keep point packed 3 end 2 1.25",
                  "keep long packed 12 end 0 7", "keep seven packed 7 end 0 7", "keep four packed 4 end 0 7",
                  "keep spread spread 3 end 1 1", "keep tens packed 3 tens 1 1", "keep plain packed 3 none 1 1",
                  "keep nought packed 3 end 0 0", "lay minus packed 3 end 1 00 0D", "keep six packed 6 end 2 9999.99",
                  "keep spreadlong spread 12 end 0 1", "keep spreadnought spread 3 end 0 0", "drop four", "undo", "drop long", "undo")

    def test_no_name(self):
        for line, name in (
            ("sum a x y", "x"), ("sum a a y", "y"), ("sum x x a", "x"), ("less a x y", "x"), ("less a a y", "y"),
            ("times a x y", "x"), ("times a a y", "y"), ("over x y z w", "z"), ("over x y a w", "w"), ("over a b x a", "x"),
            ("move a x 1 up", "x"), ("move a x 12 up", "x"), ("turn a x packed 3 end 1", "x"), ("turn a x packed 13 end 1", "x"),
            ("drop x", "x"), ("show x", "x"), ("bytes x", "x"), ("shape x", "x"), ("order x y", "x"), ("order a y", "y"),
            ("twos x 1", "x"), ("sum nine eight ten", "eight"), ("times a long y", "y"), ("over c d long y", "y"),
            ("over c d a y", "y"), ("sum a spread y", "y"),
        ):
            self.assert_refused(line, "NoName", name)

    def test_no_shape(self):
        for shape, part in (("packed 0 end 0", "figures"), ("packed 13 end 0", "figures"), ("spread 99 none 100", "figures"),
                            ("packed 3 end 4", "point"), ("spread 12 tens 13", "point"), ("packed 0 none 1", "figures"),
                            ("packed 1 none 1000000", "point"), (f"packed {'9' * 40} none 0", "figures")):
            for line in ("keep c {} 1", "keep c {} x", "keep c {} 99999999999999", "lay c {} 01", "lay c {} x", "lay a {} 01 02 03",
                         "turn c a {}", "turn a a {}", "look {} 01", "look {} x y z"):
                self.assert_refused(line.format(shape), "NoShape", part)
            self.assert_refused(f"turn c x {shape}", "NoName", "x")

    def test_no_text(self):
        for text in ("x", "1.", ".5", "1..5", "--1", "+1", "1-", "1,5", "-", ".", "1e3", "1" * 31, "0." + "0" * 31, "0x1", "1_0", "~"):
            self.assert_refused(f"keep c packed 3 end 1 {text}", "NoText")
        for text in ("x", "1", "123", "1 2", "0G", "0a", "12 5c", "125C", "12 5", "12 5C x", "12-5C", "1 25 C", "G0 12", "00 ~"):
            self.assert_refused(f"lay c packed 3 end 1 {text}", "NoText")
            self.assert_refused(f"look packed 3 end 1 {text}", "NoText")

    def test_unlike(self):
        for one, other in (("a", "point"), ("a", "six"), ("a", "spread"), ("a", "tens"), ("a", "plain"), ("spread", "a"),
                           ("long", "a"), ("spreadlong", "long"), ("nought", "minus"), ("a", "nought")):
            for line in ("sum c {} {}", "less c {} {}", "order {} {}"):
                self.assert_refused(line.format(one, other), "Unlike")
        for one, other in (("a", "spread"), ("a", "tens"), ("a", "plain"), ("spread", "a"), ("tens", "plain"),
                           ("spreadlong", "long"), ("long", "spreadlong"), ("a", "spreadnought"), ("long", "spreadnought"),
                           ("spreadlong", "nought")):
            for line in ("times c {} {}", "over c d {} {}"):
                self.assert_refused(line.format(one, other), "Unlike")
        for one, other in (("a", "point"), ("six", "a"), ("six", "point")):
            self.assertEqual(self.tell(f"times c {one} {other}")[0], "told")
            self.assertEqual(self.tell(f"over c d {one} {other}")[0], "told")

    def test_too_long(self):
        for line, number in (
            ("times c long a", 15), ("times c a long", 15), ("times c long long", 24), ("times c seven six", 13),
            ("over c d seven a", 7), ("over c d long a", 12), ("over c d seven long", 7), ("over c d six four", 4),
            ("over c d a seven", 7), ("over c d a long", 12), ("over c d seven nought", 7), ("over c d long minus", 12),
            ("move c a 4 up", 4), ("move c a -4 up", -4), ("move c a 12 cut", 12), ("move c a -12 even", -12),
            ("move c seven 8 half", 8), ("move a a -8 up", -8),
        ):
            self.assert_refused(line, "TooLong", number)
        for line in ("times c six six", "move c long 12 up", "move c long -12 up", "move c a 3 up", "move c a -3 up",
                     "over c d six a", "move c a 0 up"):
            self.assertEqual(self.tell(line)[0], "told", line)

    def test_no_fit(self):
        for shape, text in (("packed 3 end 1", "100"), ("packed 3 end 1", "-100.0"), ("packed 3 end 1", "1.25"),
                            ("packed 3 none 0", "-1"), ("packed 3 none 0", "1000"), ("packed 3 tens 0", "500"),
                            ("packed 3 tens 0", "-501"), ("spread 1 tens 1", "0.5"), ("packed 3 none 0", "0.5"),
                            ("packed 3 none 2", "9" * 30), ("packed 3 none 2", "1.001"), ("packed 12 end 0", "1000000000000")):
            self.assert_refused(f"keep c {shape} {text}", "NoFit", text)
            self.assert_refused(f"keep a {shape} {text}", "NoFit", text)
        for shape, text in (("packed 3 end 1", "007.50"), ("packed 3 end 1", "-0"), ("packed 3 tens 0", "-500.000")):
            self.assert_told(f"keep c {shape} {text}", "told", "done")

    def test_wrong(self):
        for shape, text, place, why in (
            ("packed 3 end 1", "12 59", 3, "sign"), ("packed 3 end 1", "1A 5C", 1, "figure"), ("packed 2 end 1", "12 5C", 0, "ahead"),
            ("packed 3 end 1", "12", 2, "length"), ("packed 3 end 1", "12 5C 00", 4, "length"), ("spread 2 none 0", "F1 E2", 2, "zone"),
            ("spread 2 none 0", "FA E2", 1, "figure"), ("packed 3 end 1", "12 A9 00", 2, "figure"), ("packed 3 end 1", "1F", 1, "figure"),
        ):
            self.assert_refused(f"lay c {shape} {text}", "Wrong", place, why)
            self.assert_refused(f"lay a {shape} {text}", "Wrong", place, why)
            self.assert_told(f"look {shape} {text}", "told", f"wrong {place} {why}")

    def test_by_nought(self):
        for one, other in itertools.product(("a", "b", "six", "nought", "minus"), ("nought", "minus")):
            self.assert_refused(f"over c d {one} {other}", "Nought")
            self.assert_refused(f"over {one} d {one} {other}", "Nought")
            self.assert_refused(f"over c {other} {one} {other}", "Nought")
        self.assert_refused("over c d spread spreadnought", "Nought")

    def test_nothing_done(self):
        # One deed is undone already.
        many = 0
        while self.desk.tell("names") != "none":
            self.tell("undo")
            many += 1
        self.assertEqual(many, 14)
        self.assert_refused("undo", "NothingDone")
        for step in range(many + 1):
            self.assert_told("again", "told", "done")
        self.assert_refused("again", "NothingDone")
        self.assert_refused("show long", "NoName", "long")
        self.assert_alike()

    def test_two_or_three_due_at_once(self):
        for line, *wanted in (
            ("keep A packed 13 end 1 x", "NoLine"),
            ("sum C x y", "NoLine"),
            ("over c c long spread", "NoLine"),
            ("turn c x pack 13 end 1", "NoLine"),
            ("turn c x packed 13 end 99", "NoName", "x"),
            ("keep c packed 13 end 14 x", "NoShape", "figures"),
            ("keep c packed 3 end 14 x", "NoShape", "point"),
            ("keep c packed 3 end 3 x", "NoText"),
            ("keep c packed 3 none 0 -1.x", "NoText"),
            ("lay c packed 13 none 0 xx", "NoShape", "figures"),
            ("lay c packed 3 none 0 FF xx", "NoText"),
            ("lay c packed 3 none 0 FF F", "NoText"),
            ("sum c spread x", "NoName", "x"),
            ("times c long x", "NoName", "x"),
            ("times c long spreadlong", "Unlike"),
            ("over c d long spreadlong", "Unlike"),
            ("over c d long spreadnought", "Unlike"),
            ("over c d a spreadnought", "Unlike"),
            ("over c d long long", "TooLong", 12),
            ("over c d seven nought", "TooLong", 7),
            ("move c x 12 up", "NoName", "x"),
            ("move c x 13 up", "NoLine"),
            ("move c a 12 ups", "NoLine"),
            ("twos x 5", "NoLine"),
            ("look packed 0 none 0 x", "NoShape", "figures"),
            ("look packe 0 none 0 x", "NoLine"),
            ("order x spread", "NoName", "x"),
        ):
            self.assert_refused(line, *wanted)

    def test_a_refused_line_forgets_nothing(self):
        self.tell("keep c packed 3 end 1 1", "keep c packed 3 end 1 2", "undo", "undo")
        for line in ("keep c packed 3 end 1 x", "lay c packed 3 end 1 12 59", "sum c a spread", "over c d a nought", "drop x", "x",
                     "times c long long", "move c a 9 up", "keep c packed 3 none 1 -1", "names", "show a", "look packed 1 none 0 01"):
            self.tell(line)
        self.assert_told("again", "told", "done")
        self.assert_told("show c", "told", "1.0")
        self.assert_told("again", "told", "done")
        self.assert_told("show c", "told", "2.0")
        self.assert_refused("again", "NothingDone")


class RunsTest(DeskTest):
    NAMES = ("a", "b", "c", "dd", "abcdefghijkl")

    def drawn_shape(self):
        kind, sign = self.rng.choice(KINDS), self.rng.choice(SIGNS)
        if self.rng.random() < 0.7:
            kind, sign = "packed", "end"
        figures = self.rng.choice((1, 2, 3, 3, 4, 6, 12))
        return (kind, figures, sign, self.rng.randint(0, figures))

    def drawn_line(self):
        """A line, mostly one that is answered, at times with something amiss."""
        rng = self.rng
        names = [rng.choice(self.NAMES) for step in range(4)]
        shape = self.drawn_shape()
        number = rng.choice(good_numbers(shape))
        row = spaced(rng.choice(spellings(shape, number)))
        other = self.drawn_shape()
        line = rng.choice((
            f"keep {names[0]} {worded(other)} {pointed(shape, number)}", f"lay {names[0]} {worded(other)} {row}",
            f"keep {names[0]} {worded(shape)} {pointed(shape, number)}", f"lay {names[0]} {worded(shape)} {row}",
            f"sum {names[0]} {names[1]} {names[1]}", f"sum {names[0]} {names[1]} {names[2]}",
            f"less {names[0]} {names[1]} {names[2]}", f"times {names[0]} {names[1]} {names[2]}",
            f"over {names[0]} {names[1]} {names[2]} {names[3]}", f"move {names[0]} {names[1]} {rng.randint(-4, 4)} {rng.choice(RULES)}",
            f"turn {names[0]} {names[1]} {worded(shape)}", f"drop {names[0]}", "undo", "undo", "undo", "again", "again", "again",
            "names", f"show {names[0]}", f"bytes {names[0]}", f"shape {names[0]}", f"order {names[0]} {names[1]}",
            f"look {worded(shape)} {row}", f"twos {names[0]} {rng.randint(1, 4)}",
        ))
        if rng.random() < 0.1:
            at = rng.randrange(len(line) + 1)
            line = line[:at] + rng.choice(" 0A9-.ax~") + line[at + rng.randint(0, 1):]
        return line

    def test_long_runs(self):
        told = {}
        for run in range(30):
            self.fresh()
            for step in range(400):
                answer = self.tell(self.drawn_line())
                told[answer[0]] = told.get(answer[0], 0) + 1
                if step % 40 == 0:
                    self.assert_alike()
            self.assert_alike()
        for name in ("told", "NoLine", "NoName", "NoShape", "NoText", "Unlike", "TooLong", "NoFit", "Wrong", "NothingDone"):
            self.assertGreater(told.get(name, 0), 0, told)

    def test_undo_to_the_beginning_and_again_to_the_end(self):
        for run in range(10):
            self.fresh()
            done = [self.picture()]
            for step in range(60):
                line = self.drawn_line()
                if line not in ("undo", "again"):
                    if self.tell(line)[0] == "told" and line.split(" ")[0] in (
                            "keep", "lay", "sum", "less", "times", "over", "move", "turn", "drop"):
                        done.append(self.picture())
            for wanted in done[-2::-1]:
                self.assert_told("undo", "told", "done")
                self.assertEqual(self.picture(), wanted)
            self.assert_refused("undo", "NothingDone")
            for wanted in done[1:]:
                self.assert_told("again", "told", "done")
                self.assertEqual(self.picture(), wanted)
            self.assert_refused("again", "NothingDone")

    def test_a_deed_forgets_what_was_undone(self):
        for line in ("keep d packed 1 none 0 1", "lay d packed 1 none 0 01", "sum a a a", "less a a b", "times d a b",
                     "over d e a b", "move a a 0 cut", "turn a a packed 2 none 0", "drop a"):
            self.fresh()
            self.tell("keep a packed 2 none 0 12", "keep b packed 2 none 0 5", "keep c packed 2 none 0 7", "undo")
            self.assertEqual(self.tell(line)[0], "told")
            self.assert_refused("again", "NothingDone")
            self.tell("undo")
            self.assert_told("names", "told", "a b")
            self.assert_told("show a", "told", "12")

    def test_two_desks_beside_each_other(self):
        one, other = Desk(), Desk()
        self.assertEqual(one.tell("keep a packed 1 none 0 1"), "done")
        self.assertEqual(told_by(other, "names"), ("told", "none"))
        self.assertEqual(told_by(other, "show a"), ("NoName", "a"))
        self.assertEqual(told_by(other, "undo"), ("NothingDone",))
        self.assertEqual(other.tell("keep a packed 1 none 0 2"), "done")
        self.assertEqual((one.tell("show a"), other.tell("show a")), ("1", "2"))
        self.assertEqual(one.tell("undo"), "done")
        self.assertEqual((one.tell("names"), other.tell("names")), ("none", "a"))
        self.assertEqual(told_by(other, "again"), ("NothingDone",))
        self.assertEqual(one.tell("again"), "done")
        desks = [(Desk(), PlainDesk()) for step in range(3)]
        for step in range(600):
            desk, plain = self.rng.choice(desks)
            line = self.drawn_line()
            self.assertEqual(told_by(desk, line), plain.told(line), line)

    def test_marks_of_what_goes_beyond(self):
        for shape in all_shapes((1, 3, 6)):
            least, most = ends(shape[1], shape[2])
            for number, other in itertools.product((least, most, 0, 1), repeat=2):
                self.fresh()
                self.tell(f"keep a {worded(shape)} {number}", f"keep b {worded(shape)} {other}")
                self.tell("sum c a b", "show c", "less c a b", "show c", "times c a b", "show c", "over c d a b", "names")
                if other:
                    self.tell("turn b b " + worded((shape[0], 3, shape[2], 0)), "over c d a b", "show c", "bytes d")


if __name__ == "__main__":
    unittest.main()
