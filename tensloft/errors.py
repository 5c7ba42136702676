"""The refusals. Each stands straight under LoftError, none under another one."""

# No refusal with fields hands a message on: ValueError then keeps the fields
# themselves, so a copied refusal is made of them anew, and a number of any
# length is written out only where somebody asks for the text.


class LoftError(ValueError):
    """Any refusal."""


class NoShape(LoftError):
    """A part of a shape is not as told."""

    def __init__(self, part):
        self.part = part


class NoFit(LoftError):
    """A number does not fit where it must."""

    def __init__(self, number):
        self.number = number


class Wrong(LoftError):
    """A row of bytes is not good for its shape."""

    def __init__(self, place, why):
        self.place = place
        self.why = why


class NoTable(LoftError):
    """A table of a program is none."""

    def __init__(self, at):
        self.at = at


class NoRow(LoftError):
    """A row of a program is none."""

    def __init__(self, at):
        self.at = at


class BadLine(LoftError):
    """A line of a text is no row."""

    def __init__(self, at):
        self.at = at


class TooLong(LoftError):
    """A number of figures or bytes, or a move by tens, is beyond its ends."""

    def __init__(self, number):
        self.number = number


class NoRule(LoftError):
    """A rule of rounding is none."""

    def __init__(self, rule):
        self.rule = rule


class NoDeed(LoftError):
    """A deed is none."""

    def __init__(self, deed):
        self.deed = deed


class NoName(LoftError):
    """A name stands for no number."""

    def __init__(self, name):
        self.name = name


class NoText(LoftError):
    """A text is none that can be read."""


class Nought(LoftError):
    """A divisor is nought."""


class Unlike(LoftError):
    """Two shapes are not as the deed asks."""


class NoLine(LoftError):
    """A line is none of a desk's."""


class NothingDone(LoftError):
    """There is nothing to undo or to do again."""
