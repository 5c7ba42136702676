"""What the tests measure the program by: rows written as texts of figures and letters."""

import decimal

KINDS = ("packed", "spread")
SIGNS = ("none", "end", "tens")
LENGTHS = tuple(range(1, 13))

# For each letter of a pattern: why a half there is wrong, and the right ones.
PATTERN = {
    "a": ("ahead", "0"),
    "f": ("figure", "0123456789"),
    "z": ("zone", "F"),
    "s": ("sign", "ABCDEF"),
}

# The rules, as Python's decimal numbers name them.
MODES = {
    "cut": decimal.ROUND_DOWN,
    "up": decimal.ROUND_UP,
    "half": decimal.ROUND_HALF_UP,
    "even": decimal.ROUND_HALF_EVEN,
    "floor": decimal.ROUND_FLOOR,
    "ceil": decimal.ROUND_CEILING,
}


def all_shapes(lengths=LENGTHS):
    return [(kind, n, sign, 0) for kind in KINDS for sign in SIGNS for n in lengths]


def ends(n, sign):
    nines = int("9" * n)
    if sign == "none":
        return 0, nines
    if sign == "end":
        return -nines, nines
    return -int("5" + "0" * (n - 1)), int("4" + "9" * (n - 1))


def row(text):
    return tuple(bytes.fromhex(text))


def halves_text(bytes_row):
    return "".join("%02X" % byte for byte in bytes_row)


def woven(zones, figures):
    return "".join(zone + figure for zone, figure in zip(zones, figures))


def even(text, ahead):
    return ahead + text if len(text) % 2 else text


def kept_text(shape, number):
    """The halves of the kept row, by texts alone."""
    kind, n, sign, point = shape
    figures = str(abs(number)).rjust(n, "0")
    if sign == "tens" and number < 0:
        figures = str(int("1" + "0" * n) + number).rjust(n, "0")
    mark = ""
    if sign == "end":
        mark = "D" if number < 0 else "C"
    if kind == "packed":
        return even(figures + mark, "0")
    return woven(("F" * n + mark)[-n:], figures)


def pattern_of(shape):
    kind, n, sign, point = shape
    mark = "s" if sign == "end" else ""
    if kind == "packed":
        return even("f" * n + mark, "a")
    return woven(("z" * n + mark)[-n:], "f" * n)


def caught_text(shape, text):
    """What must be told of a row whose halves are written in the text."""
    pattern = pattern_of(shape)
    for place in range(min(len(text), len(pattern))):
        why, right = PATTERN[pattern[place]]
        if text[place] not in right:
            return (place, why)
    if len(text) < len(pattern):
        return (len(text), "length")
    if len(text) > len(pattern):
        return (len(pattern), "length")
    return None


def read_text(shape, text):
    """The number that a good row whose halves are written in the text is read to."""
    kind, n, sign, point = shape
    pattern = pattern_of(shape)
    figures = "".join(half for half, letter in zip(text, pattern) if letter == "f")
    number = int(figures)
    if sign == "end" and text[pattern.index("s")] in "BD":
        return -number
    if sign == "tens" and figures[0] in "56789":
        return number - int("1" + "0" * n)
    return number


def sample(shape):
    """Numbers that fit: the ends, about nought, few figures, many figures."""
    kind, n, sign, point = shape
    least, most = ends(n, sign)
    asked = [least, least + 1, most - 1, most, -1, 0, 1, 4, 5, 7, 9, 10, 12, -7, -10, -12]
    asked += [int("1234567890123"[:n]), -int("1234567890123"[:n])]
    asked += [int("9070503010204"[:n]), -int("4070503010204"[:n]), -int("1" + "0" * (n - 1))]
    return sorted({number for number in asked if least <= number <= most})


def fold(shape, number):
    """The folded number, by the last figures of texts."""
    kind, n, sign, point = shape
    last = int(str(abs(number)).rjust(n, "0")[-n:])
    if sign == "end":
        return -last if number < 0 else last
    if number < 0 and last:
        last = int("1" + "0" * n) - last
    if sign == "tens" and str(last).rjust(n, "0")[0] in "56789":
        last -= int("1" + "0" * n)
    return last


def kept_row(shape, number):
    return row(kept_text(shape, number))


def answer(shape, number):
    """The row of bytes and the mark of an answer that is kept in the shape."""
    least, most = ends(shape[1], shape[2])
    return kept_row(shape, fold(shape, number)), 0 if least <= number <= most else 1


def spellings(shape, number):
    """All good rows of bytes that are read to the number."""
    text = kept_text(shape, number)
    if shape[2] != "end":
        return [row(text)]
    at = pattern_of(shape).index("s")
    signs = "ABCDEF" if number == 0 else "BD" if number < 0 else "ACEF"
    return [row(text[:at] + half + text[at + 1:]) for half in signs]


def moved(number, by, rule):
    """The rounded number, by decimal numbers."""
    with decimal.localcontext() as context:
        context.prec = 200
        return int(decimal.Decimal(number).scaleb(by).quantize(decimal.Decimal(1), rounding=MODES[rule]))
