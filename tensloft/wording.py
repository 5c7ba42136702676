"""The wording of a desk's lines ([38] to [40])."""

from tensloft.errors import NoLine
from tensloft.points import RULES
from tensloft.shapes import KINDS, SIGNS, shape
from tensloft.texts import FIGURES
from tensloft.twos import MOST_BYTES

SMALL_LETTERS = "abcdefghijklmnopqrstuvwxyz"
LONGEST_NAME = 12
FARTHEST_MOVE = 12

# What stands behind the first word of each line. "held" is a name that must stand for
# a number, "name" one that need not; "words" are one or more words, as one text.
LINES = {
    "keep": ("name", "kind", "count", "sign", "count", "word"),
    "lay": ("name", "kind", "count", "sign", "count", "words"),
    "sum": ("name", "held", "held"),
    "less": ("name", "held", "held"),
    "times": ("name", "held", "held"),
    "over": ("name", "name", "held", "held"),
    "move": ("name", "held", "move", "rule"),
    "turn": ("name", "held", "kind", "count", "sign", "count"),
    "drop": ("held",),
    "undo": (),
    "again": (),
    "names": (),
    "show": ("held",),
    "bytes": ("held",),
    "shape": ("held",),
    "order": ("held", "held"),
    "look": ("kind", "count", "sign", "count", "words"),
    "twos": ("held", "bytes"),
}


def words_of(line):
    """The words of a line, a list, words that make up one text together; refuses with NoLine."""
    words = line.split(" ")
    if "" in words or words[0] not in LINES:
        raise NoLine(f"no line begins so, or a blank too many: {line}")
    sorts = LINES[words[0]]
    if sorts[-1:] == ("words",) and len(words) > len(sorts):
        words = words[:len(sorts)] + [" ".join(words[len(sorts):])]
    if len(words) != len(sorts) + 1:
        raise NoLine(f"a word too few or too many: {line}")
    for sort, word in zip(sorts, words[1:]):
        if not is_worded(sort, word):
            raise NoLine(f"not as told: {word}")
    if words[0] == "over" and words[1] == words[2]:
        raise NoLine(f"one name for quotient and rest: {words[1]}")
    return words


def is_worded(sort, word):
    """Whether a word that isn't empty is one of the sort."""
    if sort in ("name", "held"):
        return len(word) <= LONGEST_NAME and all(sign in SMALL_LETTERS for sign in word)
    if sort == "kind":
        return word in KINDS
    if sort == "sign":
        return word in SIGNS
    if sort == "count":
        return is_count(word)
    if sort == "move":
        return word != "-0" and is_count_up_to(word.removeprefix("-"), FARTHEST_MOVE)
    if sort == "rule":
        return word in RULES
    if sort == "bytes":
        return word != "0" and is_count_up_to(word, MOST_BYTES)
    return True


def is_count(word):
    """Whether a word is a whole number from 0 on, by its figures without needless noughts."""
    return word == "0" or (word != "" and word[0] != "0" and all(sign in FIGURES for sign in word))


def is_count_up_to(word, most):
    """Whether a word is such a number up to the most."""
    return is_count(word) and int(word) <= most


def names_asked(words):
    """The names in the words of a line that must stand for a number."""
    return [word for sort, word in zip(LINES[words[0]], words[1:]) if sort == "held"]


def shape_told(words):
    """The shape that four words tell; refuses with NoShape."""
    kind, figures, sign, point = words
    return shape(kind, int(figures), sign, int(point))


def shape_worded(asked):
    """The four words of a shape, one blank between."""
    return " ".join([str(part) for part in asked])
