"""The deeds at a desk ([38], [40]), each of which is handed the book and the words behind the line's first one."""

from tensloft.answers import answer_of
from tensloft.books import number_held, numbers_of_one_shape, numbers_of_one_sort
from tensloft.errors import TooLong
from tensloft.keeping import kept, number_of
from tensloft.points import rounded
from tensloft.quotients import parted, refuse_long_ones
from tensloft.shapes import MOST_FIGURES
from tensloft.texts import told, unhexed
from tensloft.wording import shape_told

DONE = "done"


def keep_deed(book, words):
    """keep NAME SHAPE NUMBER"""
    shape = shape_told(words[1:5])
    number = told(shape, words[5])
    book.change([(words[0], (shape, kept(shape, number)))])
    return DONE


def lay_deed(book, words):
    """lay NAME SHAPE BYTES"""
    shape = shape_told(words[1:5])
    row = unhexed(words[5])
    # Refuses a row that isn't good.
    number_of(shape, row)
    book.change([(words[0], (shape, row))])
    return DONE


def answer_under(book, name, shape, number):
    """Keeps an answer under the name; the mark as a text."""
    row, mark = answer_of(shape, number)
    book.change([(name, (shape, row))])
    return str(mark)


def sum_deed(book, words):
    """sum NAME ONE OTHER"""
    shape, one, other = numbers_of_one_shape(book, words[1], words[2])
    return answer_under(book, words[0], shape, one + other)


def less_deed(book, words):
    """less NAME ONE OTHER"""
    shape, one, other = numbers_of_one_shape(book, words[1], words[2])
    return answer_under(book, words[0], shape, one - other)


def times_deed(book, words):
    """times NAME ONE OTHER"""
    (shape, one), (second, other) = numbers_of_one_sort(book, words[1], words[2])
    kind, figures, sign, point = shape
    figures += second[1]
    if figures > MOST_FIGURES:
        raise TooLong(figures)
    return answer_under(book, words[0], (kind, figures, sign, point + second[3]), one * other)


def over_deed(book, words):
    """over NAME REST ONE OTHER"""
    (shape, one), (second, other) = numbers_of_one_sort(book, words[2], words[3])
    refuse_long_ones(shape[1], second[1])
    quotient, rest = parted(one, other)
    row, mark = answer_of(shape, quotient)
    book.change([(words[0], (shape, row)), (words[1], (second, kept(second, rest)))])
    return str(mark)


def move_deed(book, words):
    """move NAME ONE BY RULE"""
    shape, number = number_held(book, words[1])
    by = int(words[2])
    if abs(by) > shape[1]:
        raise TooLong(by)
    return answer_under(book, words[0], shape, rounded(number, by, words[3]))


def turn_deed(book, words):
    """turn NAME ONE SHAPE"""
    second = shape_told(words[2:])
    shape, number = number_held(book, words[1])
    return answer_under(book, words[0], second, number)


def drop_deed(book, words):
    """drop NAME"""
    book.change([(words[0], None)])
    return DONE


def undo_deed(book, words):
    """undo"""
    book.undo()
    return DONE


def again_deed(book, words):
    """again"""
    book.again()
    return DONE


DEEDS = {
    "keep": keep_deed,
    "lay": lay_deed,
    "sum": sum_deed,
    "less": less_deed,
    "times": times_deed,
    "over": over_deed,
    "move": move_deed,
    "turn": turn_deed,
    "drop": drop_deed,
    "undo": undo_deed,
    "again": again_deed,
}
