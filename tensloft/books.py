"""Books, in which a desk keeps what its names stand for, and the deeds done ([38], [40])."""

from tensloft.errors import NothingDone, Unlike
from tensloft.keeping import number_of


class Book:
    """Names with an entry each, a shape and a good row of bytes of it, and the deeds that changed them."""

    def __init__(self):
        self.entries = {}
        self.done = []
        self.undone = []

    def names_held(self):
        """The names that have an entry, sorted."""
        return sorted(self.entries)

    def holds(self, name):
        """Whether the name has an entry."""
        return name in self.entries

    def entry_of(self, name):
        """The entry of a name that has one."""
        return self.entries[name]

    def change(self, changes):
        """Does a deed: each of these names gets the entry beside it, or none where that is None."""
        change = [(name, self.entries.get(name), behind) for name, behind in changes]
        self.done.append(change)
        self.undone = []
        for name, before, behind in change:
            self.enter(name, behind)

    def undo(self):
        """Takes the last deed back; refuses with NothingDone."""
        if not self.done:
            raise NothingDone("nothing to undo")
        change = self.done.pop()
        self.undone.append(change)
        for name, before, behind in change:
            self.enter(name, before)

    def again(self):
        """Does the deed that was taken back last once more; refuses with NothingDone."""
        if not self.undone:
            raise NothingDone("nothing to do again")
        change = self.undone.pop()
        self.done.append(change)
        for name, before, behind in change:
            self.enter(name, behind)

    def enter(self, name, entry):
        """Gives a name the entry, or takes the one that it has where that is None."""
        if entry is None:
            del self.entries[name]
        else:
            self.entries[name] = entry


def number_held(book, name):
    """The shape and the number that a name stands for."""
    shape, row = book.entry_of(name)
    return (shape, number_of(shape, row))


def numbers_of_one_shape(book, one, other):
    """The shape of both names and their numbers; refuses with Unlike."""
    shape, number = number_held(book, one)
    second, other_number = number_held(book, other)
    if second != shape:
        raise Unlike("two shapes")
    return (shape, number, other_number)


def numbers_of_one_sort(book, one, other):
    """The shape and the number of each of both names; refuses with Unlike where kind or sign isn't one."""
    kind, figures, sign, point = book.entry_of(one)[0]
    other_kind, other_figures, other_sign, other_point = book.entry_of(other)[0]
    if (other_kind, other_sign) != (kind, sign):
        raise Unlike("two kinds, or two signs")
    return (number_held(book, one), number_held(book, other))
