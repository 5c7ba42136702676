"""Texts of numbers and of rows of bytes ([12], [13])."""

from tensloft.errors import NoFit, NoText
from tensloft.powers import ten_to
from tensloft.shapes import fits

FIGURES = "0123456789"
HALVES = "0123456789ABCDEF"
MOST_FIGURES_READ = 30


def written(shape, number):
    """The text of a number that fits; refuses with NoFit."""
    kind, figures, sign, point = shape
    if not fits(shape, number):
        raise NoFit(number)
    text = str(abs(number)).zfill(point + 1)
    if point > 0:
        text = text[:-point] + "." + text[-point:]
    return "-" + text if number < 0 else text


def told(shape, text):
    """The number that a text is read to; refuses with NoText, then with NoFit."""
    kind, figures, sign, point = shape
    below = text.startswith("-")
    ahead, dot, behind = text.removeprefix("-").partition(".")
    if not are_figures(ahead):
        raise NoText(f"no figures, or too many, ahead of the point: {text}")
    if dot and not are_figures(behind):
        raise NoText(f"no figures, or too many, behind the point: {text}")
    size, rest = divmod(int(ahead + behind) * ten_to(point), ten_to(len(behind)))
    number = -size if below else size
    if rest > 0 or not fits(shape, number):
        raise NoFit(text)
    return number


def are_figures(text):
    """Whether the text is of one to thirty figures."""
    return 1 <= len(text) <= MOST_FIGURES_READ and all(sign in FIGURES for sign in text)


def hexed(row):
    """The text of a row of bytes."""
    return " ".join([f"{byte:02X}" for byte in row])


def unhexed(text):
    """The row of bytes that a text is read to; refuses with NoText."""
    if text == "":
        return ()
    return tuple([byte_told(word) for word in text.split(" ")])


def byte_told(word):
    """The byte that two signs are read to; refuses with NoText."""
    if len(word) != 2 or word[0] not in HALVES or word[1] not in HALVES:
        raise NoText(f"no byte: {word}")
    return 16 * HALVES.index(word[0]) + HALVES.index(word[1])
