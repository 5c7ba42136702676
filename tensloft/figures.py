"""Rows that work on numbers figure by figure.

A number in work is a list of cells, that of its rightmost figure first, with a
figure from 0 to 9 in each. One below 0 is there with a power of ten added, as
"tens" keeps it. It always has so many cells that its last figure is below 5
where it isn't below 0, and 5 or above where it is.
"""

from tensloft.keeping import RIGHT_HALVES, SIGN_ABOVE, SIGN_BELOW, SIGNS_READ_BELOW, bytes_of, places_of

# Just the sums of figures from 10 on reach 256 with this.
UP_TO_THE_MARK = 246


def read_number(sheet, shape, at, many):
    """The number, of so many cells, of the operand whose row of bytes begins at a cell."""
    kind, figures, sign, point = shape
    places = places_of(shape)
    number = sheet.fresh(many)
    from_the_left = [place for place, what in enumerate(places) if what == "figure"]
    for cell, place in zip(number, from_the_left[::-1]):
        copy_half(sheet, cell, at, place)
    for cell in number[figures:]:
        if sign == "tens":
            sheet.do("copy", cell, number[figures - 1])
            sheet.look(cell, nine_from_five_on)
        else:
            sheet.do("put", cell, 0)
    if sign == "end":
        below = sheet.fresh_cell()
        copy_half(sheet, below, at, places.index("sign"))
        sheet.look(below, sixteen_where_minus)
        turn_where(sheet, number, below)
    return number


def read_both(sheet, shape):
    """The numbers of two operands, with a cell more than figures: enough for their sum or difference."""
    many = shape[1] + 1
    return (read_number(sheet, shape, 0, many), read_number(sheet, shape, bytes_of(shape), many))


def copy_half(sheet, cell, at, place):
    """Copies the half at a place of the row of bytes that begins at a cell."""
    sheet.do("copy", cell, at + place // 2)
    sheet.look(cell, high_half if place % 2 == 0 else low_half)


def add_number(sheet, number, other):
    """Adds the other number, of as many cells, and the mark; the mark becomes the carry."""
    for one, two in zip(number, other):
        add_figure(sheet, one, two)
        sheet.look(one, figure_left)


def add_figure(sheet, one, two):
    """Adds a figure and the mark, and UP_TO_THE_MARK, so that the mark becomes the carry."""
    # The sum of two figures and a carry is far below 256: behind it the mark is 0.
    sheet.do("addc", one, two)
    sheet.do("add", one, sheet.holding(UP_TO_THE_MARK))


def add_mark(sheet, number):
    """Adds the mark to the number; the mark becomes the carry."""
    add_number(sheet, number, [sheet.holding(0)] * len(number))


def below_nought(sheet, number):
    """A cell that becomes 16 where the number is below 0, else 0."""
    below = sheet.fresh_cell()
    sheet.do("copy", below, number[-1])
    sheet.look(below, sixteen_from_five_on)
    return below


def turn_where(sheet, number, below):
    """Gives the number the other sign where the cell below is 16, not where it is 0."""
    for cell in number:
        sheet.do("or", cell, below)
        sheet.look(cell, nine_less_from_sixteen_on)
    mark_where(sheet, below)
    add_mark(sheet, number)


def take_sign(sheet, number):
    """Takes the sign off the number; a cell that becomes 16 where it was below 0, else 0."""
    below = below_nought(sheet, number)
    turn_where(sheet, number, below)
    return below


def tell_unlike(sheet, below, other):
    """The first of two cells that are 16 or 0 becomes 16 where they are unlike, else 0."""
    sheet.do("add", below, other)
    sheet.look(below, sixteen_alone)


def noughts(sheet, many):
    """A list of so many cells that become 0."""
    cells = sheet.fresh(many)
    for cell in cells:
        sheet.do("put", cell, 0)
    return cells


def mark_where(sheet, cell):
    """The mark becomes 1 where the cell isn't 0, else 0."""
    spare = sheet.fresh_cell()
    sheet.do("copy", spare, cell)
    sheet.do("add", spare, sheet.holding(255))


def any_of(sheet, cells):
    """A cell that becomes 0 where all these are 0, else another byte: 1 to 15, if each is below 16."""
    found = noughts(sheet, 1)[0]
    for cell in cells:
        sheet.do("or", found, cell)
    return found


def keep_number(sheet, shape, number, at=0):
    """Keeps the number, folded, from a cell on and uses it up; the mark is 0 where it fits, else 1."""
    kind, figures, sign, point = shape
    inside = number[:figures]
    beyond = number[figures:]
    signed = None
    if sign == "end":
        below = take_sign(sheet, number)
        signed = any_of(sheet, inside)
        sheet.do("or", signed, below)
        sheet.look(signed, sign_half)
    if sign == "tens":
        below = below_nought(sheet, inside)
        for cell in beyond:
            sheet.do("or", cell, below)
            sheet.look(cell, nought_where_alike)
    mark_where(sheet, any_of(sheet, beyond))
    lay_halves(sheet, at, halves_in_work(sheet, shape, inside, signed))


def halves_in_work(sheet, shape, figures, signed):
    """The cells in which the halves of a row of bytes are, from the left."""
    left = list(figures)
    halves = []
    for what in places_of(shape):
        if what == "figure":
            halves.append(left.pop())
        elif what == "sign":
            halves.append(signed)
        else:
            # Ahead and in a zone just one half is right.
            halves.append(sheet.holding(RIGHT_HALVES[what][0]))
    return halves


def lay_halves(sheet, at, halves):
    """Lays halves two to a byte into the cells from a cell on; the mark stays."""
    for place in range(0, len(halves), 2):
        cell = at + place // 2
        sheet.do("copy", cell, halves[place])
        sheet.look(cell, sixteen_times)
        sheet.do("or", cell, halves[place + 1])


# What the tables make of a byte. Bytes that never come up are left to what is shortest.


def high_half(byte):
    """The half at the left."""
    return byte // 16


def low_half(byte):
    """The half at the right."""
    return byte % 16


def sixteen_times(byte):
    """The byte whose high half is the half."""
    return byte % 16 * 16


def figure_left(byte):
    """The last figure of a sum, behind add_figure."""
    return byte - UP_TO_THE_MARK if byte >= UP_TO_THE_MARK else byte


def nine_from_five_on(byte):
    """The figure ahead of a first figure of "tens"."""
    return 9 if byte >= 5 else 0


def sixteen_from_five_on(byte):
    """16 for the first figure of a number below 0."""
    return 16 if byte >= 5 else 0


def sixteen_alone(byte):
    """16 for 16, else 0."""
    return 16 if byte == 16 else 0


def sixteen_where_minus(byte):
    """16 for a sign's half that is read as below 0."""
    return 16 if byte in SIGNS_READ_BELOW else 0


def nine_less_from_sixteen_on(byte):
    """Nine less the figure where 16 was added to it, else the figure."""
    return (25 - byte) % 256 if byte >= 16 else byte


def nought_where_alike(byte):
    """0 for a 9 to which 16 was added and for a 0 to which it wasn't."""
    return 0 if byte in (0, 25) else 1


def sign_half(byte):
    """The sign's half, where the figures together, and 16 if they are below 0, make this byte."""
    return SIGN_BELOW if byte > 16 else SIGN_ABOVE
