"""Numbers kept as rows of bytes, and rows of bytes read ([9] to [11])."""

from tensloft.errors import NoFit, Wrong
from tensloft.powers import ten_to
from tensloft.shapes import fits, folded

# What a shape may have at a place, with the least and the greatest half that is
# right there. The words are those by which caught tells why a half is wrong.
RIGHT_HALVES = {"ahead": (0, 0), "figure": (0, 9), "zone": (15, 15), "sign": (10, 15)}
SIGN_ABOVE = 12
SIGN_BELOW = 13
SIGNS_READ_BELOW = (11, 13)


def kept(shape, number):
    """The row of bytes of a number that fits; refuses with NoFit."""
    kind, figures, sign, point = shape
    if not fits(shape, number):
        raise NoFit(number)
    rest = abs(number) if sign == "end" else number % ten_to(figures)
    halves = []
    for what in reversed(places_of(shape)):
        if what == "figure":
            halves.append(rest % 10)
            rest //= 10
        elif what == "sign":
            halves.append(SIGN_BELOW if number < 0 else SIGN_ABOVE)
        else:
            # Ahead and in a zone just one half is right.
            halves.append(RIGHT_HALVES[what][0])
    return row_of(halves[::-1])


def bytes_of(shape):
    """The number of bytes that the shape has."""
    return len(places_of(shape)) // 2


def number_of(shape, row):
    """The number that a good row of bytes is read to; refuses with Wrong."""
    fault = caught(shape, row)
    if fault is not None:
        place, why = fault
        raise Wrong(place, why)
    size = 0
    below = False
    for what, half in zip(places_of(shape), halves_of(row)):
        if what == "figure":
            size = 10 * size + half
        elif what == "sign":
            below = half in SIGNS_READ_BELOW
    # Folding takes 10 ** figures off just where the shape is "tens" and the first
    # figure is 5 or above; every other number fits already.
    return folded(shape, -size if below else size)


def caught(shape, row):
    """None of a good row of bytes, else where it is wrong first, and why."""
    places = places_of(shape)
    halves = halves_of(row)
    for place, (what, half) in enumerate(zip(places, halves)):
        least, most = RIGHT_HALVES[what]
        if not least <= half <= most:
            return (place, what)
    if len(halves) != len(places):
        return (min(len(halves), len(places)), "length")
    return None


def places_of(shape):
    """What the shape has at each place of its halves, a list from the left."""
    kind, figures, sign, point = shape
    if kind == "packed":
        return packed_places(figures, sign)
    return spread_places(figures, sign)


def packed_places(figures, sign):
    """The places of a packed shape."""
    places = ["figure"] * figures
    if sign == "end":
        places.append("sign")
    if len(places) % 2 == 1:
        places.insert(0, "ahead")
    return places


def spread_places(figures, sign):
    """The places of a spread shape."""
    places = ["zone", "figure"] * figures
    if sign == "end":
        places[-2] = "sign"
    return places


def halves_of(row):
    """The halves of a row of bytes, a list from the left."""
    halves = []
    for byte in row:
        halves.append(byte // 16)
        halves.append(byte % 16)
    return halves


def row_of(halves):
    """The row of bytes of an even number of halves."""
    return tuple([16 * halves[at] + halves[at + 1] for at in range(0, len(halves), 2)])
