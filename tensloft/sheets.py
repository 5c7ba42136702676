"""Sheets, on which programs of the machine are written ([14])."""

# The rows of bytes of two operands, and of any answer, end ahead of this cell.
FIRST_FREE_CELL = 24


class Sheet:
    """A program that is being written: its tables, its rows and the cells that it has taken."""

    def __init__(self):
        self.tables = []
        self.rows = []
        self.table_numbers = {}
        self.cells_holding = {}
        self.free = FIRST_FREE_CELL

    def do(self, word, *numbers):
        """Writes a row."""
        self.rows.append((word, *numbers))

    def look(self, cell, rule):
        """Writes the row by which the cell becomes what the rule, a function, makes of its byte."""
        if rule not in self.table_numbers:
            self.table_numbers[rule] = len(self.tables)
            self.tables.append(tuple([rule(byte) for byte in range(256)]))
        self.do("look", cell, self.table_numbers[rule])

    def fresh(self, many):
        """A list of so many cells, side by side, that nothing else on the sheet has."""
        first = self.free
        self.free += many
        return list(range(first, self.free))

    def fresh_cell(self):
        """One cell that nothing else on the sheet has."""
        return self.fresh(1)[0]

    def holding(self, byte):
        """A cell that holds the byte, for rows that only read it."""
        if byte not in self.cells_holding:
            self.cells_holding[byte] = self.fresh_cell()
            self.do("put", self.cells_holding[byte], byte)
        return self.cells_holding[byte]

    def program(self):
        """The program written so far."""
        return (tuple(self.tables), tuple(self.rows))
