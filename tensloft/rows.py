"""The rows of the machine: their words and what stands behind each ([14])."""

PARTS = {
    "put": ("cell", "byte"),
    "copy": ("cell", "cell"),
    "add": ("cell", "cell"),
    "addc": ("cell", "cell"),
    "and": ("cell", "cell"),
    "or": ("cell", "cell"),
    "left": ("cell",),
    "right": ("cell",),
    "look": ("cell", "table"),
    "mark": ("mark",),
}
MOST_CELLS = 256
MOST_TABLES = 16


def bounds_of(cells, tables):
    """The bound below which each sort of number lies, for so many cells and tables."""
    return {"cell": cells, "byte": 256, "table": tables, "mark": 2}


def is_right(row, bounds):
    """Whether a tuple of a text and whole numbers is a row, within the bounds."""
    parts = PARTS.get(row[0])
    if parts is None or len(row) != len(parts) + 1:
        return False
    for part, number in zip(parts, row[1:]):
        if not 0 <= number < bounds[part]:
            return False
    return True
