"""A second machine, by texts of twos, and a second look at programs, to measure the program by."""

NUMBERS = {
    "put": "ck", "copy": "cc", "add": "cc", "addc": "cc", "and": "cc", "or": "cc",
    "left": "c", "right": "c", "look": "ct", "mark": "m",
}


def bits(byte):
    return bin(byte)[2:].rjust(8, "0")


def worth(text):
    return int(text, 2)


def joined(one, other, wanted):
    return worth("".join("1" if (a + b).count("1") >= wanted else "0" for a, b in zip(bits(one), bits(other))))


def total(cells, at, number):
    """Stores the last eight twos of a sum; the mark is the one ahead of them."""
    text = bin(number)[2:].rjust(9, "0")
    cells[at] = worth(text[1:])
    return int(text[0])


def plain_step(tables, cells, mark, row):
    word, a = row[0], row[1]
    b = row[-1]
    if word == "put":
        cells[a] = b
    elif word == "copy":
        cells[a] = cells[b]
    elif word == "add":
        mark = total(cells, a, cells[a] + cells[b])
    elif word == "addc":
        mark = total(cells, a, cells[a] + cells[b] + mark)
    elif word == "and":
        cells[a] = joined(cells[a], cells[b], 2)
    elif word == "or":
        cells[a] = joined(cells[a], cells[b], 1)
    elif word == "left":
        text = bits(cells[a]) + str(mark)
        cells[a], mark = worth(text[1:]), int(text[0])
    elif word == "right":
        text = str(mark) + bits(cells[a])
        cells[a], mark = worth(text[:-1]), int(text[-1])
    elif word == "look":
        cells[a] = tables[b][cells[a]]
    elif word == "mark":
        mark = a
    return mark


def plain_run(program, cells, mark):
    tables, rows = program
    work = list(cells)
    for row in rows:
        mark = plain_step(tables, work, mark, row)
    return tuple(work), mark


def is_program(program, cells=256):
    """Whether it is a program of [14] for so many cells, by kinds of values too."""
    if type(program) is not tuple or len(program) != 2:
        return False
    tables, rows = program
    if type(tables) is not tuple or type(rows) is not tuple or len(tables) > 16 or len(rows) > 9000:
        return False
    bounds = {"c": cells, "k": 256, "t": len(tables), "m": 2}
    for table in tables:
        if type(table) is not tuple or len(table) != 256:
            return False
        if not all(type(byte) is int and byte in range(256) for byte in table):
            return False
    for row in rows:
        if type(row) is not tuple or type(row[0]) is not str or row[0] not in NUMBERS:
            return False
        letters = NUMBERS[row[0]]
        if len(row) != len(letters) + 1:
            return False
        if not all(type(k) is int and k in range(bounds[letter]) for k, letter in zip(row[1:], letters)):
            return False
    return True
