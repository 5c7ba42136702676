"""Desks, which keep numbers under names ([38] to [40])."""

from tensloft.books import Book
from tensloft.deeds import DEEDS
from tensloft.errors import NoName
from tensloft.questions import QUESTIONS
from tensloft.wording import names_asked, words_of


class Desk:
    """A desk, to which lines are told."""

    def __init__(self):
        self.book = Book()

    def tell(self, line):
        """The answer to a line; refuses as [40] tells, and then changes nothing."""
        words = words_of(line)
        for name in names_asked(words):
            if not self.book.holds(name):
                raise NoName(name)
        if words[0] in QUESTIONS:
            answer = QUESTIONS[words[0]]
        else:
            answer = DEEDS[words[0]]
        return answer(self.book, words[1:])
