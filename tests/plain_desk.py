"""A second desk, by patterns of lines and by whole pictures of what stands on it, to measure the program by."""

import fractions
import re

from oracle import answer, caught_text, ends, kept_row, kept_text, moved, read_text

COUNT = "(?:0|[1-9][0-9]*)"
PARTS = {
    "NAME": "(?P<name>[a-z]{1,12})",
    "REST": "(?P<rest>[a-z]{1,12})",
    "ONE": "(?P<one>[a-z]{1,12})",
    "OTHER": "(?P<other>[a-z]{1,12})",
    "SHAPE": f"(?P<shape>(?:packed|spread) {COUNT} (?:none|end|tens) {COUNT})",
    "NUMBER": "(?P<number>[^ ]+)",
    "BYTES": "(?P<bytes>[^ ]+(?: [^ ]+)*)",
    "BY": "(?P<by>0|-?[1-9]|-?1[012])",
    "RULE": "(?P<rule>cut|up|half|even|floor|ceil)",
    "M": "(?P<m>[1234])",
}
LINES = (
    "keep NAME SHAPE NUMBER", "lay NAME SHAPE BYTES", "sum NAME ONE OTHER", "less NAME ONE OTHER",
    "times NAME ONE OTHER", "over NAME REST ONE OTHER", "move NAME ONE BY RULE", "turn NAME ONE SHAPE", "drop ONE",
    "undo", "again", "names", "show ONE", "bytes ONE", "shape ONE", "order ONE OTHER", "look SHAPE BYTES", "twos ONE M",
)
PATTERNS = [re.compile(" ".join(PARTS.get(word, word) for word in line.split())) for line in LINES]


class Refused(Exception):
    """Told with the name of the refusal and its fields."""


class PlainDesk:
    def __init__(self):
        self.pictures = [{}]
        self.at = 0

    def told(self, line):
        """("told", answer), or the name of the refusal and its fields."""
        try:
            return ("told", self.answer(line))
        except Refused as refusal:
            return refusal.args

    def answer(self, line):
        found = [pattern.fullmatch(line) for pattern in PATTERNS]
        found = [match for match in found if match]
        if not found:
            raise Refused("NoLine")
        deed, parts = line.split(" ")[0], found[0].groupdict()
        if deed == "over" and parts["name"] == parts["rest"]:
            raise Refused("NoLine")
        held = self.pictures[self.at]
        for name in (parts.get("one"), parts.get("other")):
            if name is not None and name not in held:
                raise Refused("NoName", name)
        shape = self.shape(parts["shape"]) if "shape" in parts else None
        return getattr(self, "do_" + deed)(held, parts, shape)

    def shape(self, text):
        kind, figures, sign, point = text.split(" ")
        if int(figures) not in range(1, 13):
            raise Refused("NoShape", "figures")
        if int(point) > int(figures):
            raise Refused("NoShape", "point")
        return kind, int(figures), sign, int(point)

    def deed(self, changes, told="done"):
        """Goes on from a new picture, forgetting those that were undone."""
        self.pictures = self.pictures[:self.at + 1] + [{**self.pictures[self.at], **changes}]
        self.at += 1
        return told

    def kept(self, parts, shape, number):
        row, mark = answer(shape, number)
        return self.deed({parts["name"]: (shape, bytes(row).hex().upper())}, str(mark))

    def number(self, held, name):
        return read_text(*held[name])

    def do_keep(self, held, parts, shape):
        text = parts["number"]
        if not re.fullmatch(r"-?[0-9]{1,30}(\.[0-9]{1,30})?", text):
            raise Refused("NoText")
        number = fractions.Fraction(text) * 10 ** shape[3]
        least, most = ends(shape[1], shape[2])
        if number.denominator != 1 or not least <= number <= most:
            raise Refused("NoFit", text)
        return self.deed({parts["name"]: (shape, kept_text(shape, int(number)))})

    def halves(self, text):
        if not re.fullmatch("[0-9A-F]{2}( [0-9A-F]{2})*", text):
            raise Refused("NoText")
        return text.replace(" ", "")

    def do_lay(self, held, parts, shape):
        halves = self.halves(parts["bytes"])
        fault = caught_text(shape, halves)
        if fault:
            raise Refused("Wrong", *fault)
        return self.deed({parts["name"]: (shape, halves)})

    def alike(self, held, parts, by):
        one, other = held[parts["one"]][0], held[parts["other"]][0]
        if [one[k] for k in by] != [other[k] for k in by]:
            raise Refused("Unlike")
        return one, other, self.number(held, parts["one"]), self.number(held, parts["other"])

    def do_sum(self, held, parts, shape):
        shape, shape, one, other = self.alike(held, parts, (0, 1, 2, 3))
        return self.kept(parts, shape, one + other)

    def do_less(self, held, parts, shape):
        shape, shape, one, other = self.alike(held, parts, (0, 1, 2, 3))
        return self.kept(parts, shape, one - other)

    def do_times(self, held, parts, shape):
        first, second, one, other = self.alike(held, parts, (0, 2))
        both = first[1] + second[1]
        if both > 12:
            raise Refused("TooLong", both)
        return self.kept(parts, (first[0], both, first[2], first[3] + second[3]), one * other)

    def do_over(self, held, parts, shape):
        first, second, one, other = self.alike(held, parts, (0, 2))
        for figures, most in ((first[1], 6), (second[1], 3)):
            if figures > most:
                raise Refused("TooLong", figures)
        if other == 0:
            raise Refused("Nought")
        quotient = int(fractions.Fraction(one, other))
        row, mark = answer(first, quotient)
        quotient, rest = bytes(row).hex().upper(), kept_text(second, one - quotient * other)
        return self.deed({parts["name"]: (first, quotient), parts["rest"]: (second, rest)}, str(mark))

    def do_move(self, held, parts, shape):
        shape, by = held[parts["one"]][0], int(parts["by"])
        if not -shape[1] <= by <= shape[1]:
            raise Refused("TooLong", by)
        return self.kept(parts, shape, moved(self.number(held, parts["one"]), by, parts["rule"]))

    def do_turn(self, held, parts, shape):
        return self.kept(parts, shape, self.number(held, parts["one"]))

    def do_drop(self, held, parts, shape):
        self.deed({})
        del self.pictures[self.at][parts["one"]]
        return "done"

    def do_undo(self, held, parts, shape):
        if self.at == 0:
            raise Refused("NothingDone")
        self.at -= 1
        return "done"

    def do_again(self, held, parts, shape):
        if self.at == len(self.pictures) - 1:
            raise Refused("NothingDone")
        self.at += 1
        return "done"

    def do_names(self, held, parts, shape):
        return " ".join(sorted(held)) or "none"

    def do_show(self, held, parts, shape):
        shape, number = held[parts["one"]][0], self.number(held, parts["one"])
        size = str(abs(number)).rjust(shape[3] + 1, "0")
        at = len(size) - shape[3]
        return ("-" if number < 0 else "") + size[:at] + ("." + size[at:] if shape[3] else "")

    def do_bytes(self, held, parts, shape):
        return " ".join(re.findall("..", held[parts["one"]][1]))

    def do_shape(self, held, parts, shape):
        return "%s %d %s %d" % held[parts["one"]][0]

    def do_order(self, held, parts, shape):
        shape, shape, one, other = self.alike(held, parts, (0, 1, 2, 3))
        return "less" if one < other else "alike" if one == other else "greater"

    def do_look(self, held, parts, shape):
        fault = caught_text(shape, self.halves(parts["bytes"]))
        return "wrong %d %s" % fault if fault else "good"

    def do_twos(self, held, parts, shape):
        number, many = self.number(held, parts["one"]), int(parts["m"])
        row = number.to_bytes(16, "big", signed=True)[-many:]
        back = int.from_bytes(row, "big", signed=held[parts["one"]][0][2] != "none")
        return row.hex(" ").upper() + " : " + ("0" if back == number else "1")
