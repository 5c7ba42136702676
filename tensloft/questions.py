"""The questions at a desk ([39], [40]), each of which is handed the book and the words behind the line's first one."""

from tensloft.books import number_held, numbers_of_one_shape
from tensloft.differences import order_of
from tensloft.keeping import caught
from tensloft.texts import hexed, unhexed, written
from tensloft.twos import by_twos, from_twos
from tensloft.wording import shape_told, shape_worded

# By what order_of tells.
ORDERS = ("less", "alike", "greater")


def names_question(book, words):
    """names"""
    names = book.names_held()
    return " ".join(names) if names else "none"


def show_question(book, words):
    """show ONE"""
    shape, number = number_held(book, words[0])
    return written(shape, number)


def bytes_question(book, words):
    """bytes ONE"""
    shape, row = book.entry_of(words[0])
    return hexed(row)


def shape_question(book, words):
    """shape ONE"""
    shape, row = book.entry_of(words[0])
    return shape_worded(shape)


def order_question(book, words):
    """order ONE OTHER"""
    shape, one, other = numbers_of_one_shape(book, words[0], words[1])
    return ORDERS[order_of(one, other)]


def look_question(book, words):
    """look SHAPE BYTES"""
    fault = caught(shape_told(words[:4]), unhexed(words[4]))
    if fault is None:
        return "good"
    place, why = fault
    return f"wrong {place} {why}"


def twos_question(book, words):
    """twos ONE M"""
    shape, number = number_held(book, words[0])
    row = by_twos(shape, number, int(words[1]))
    mark = 0 if from_twos(shape, row) == number else 1
    return f"{hexed(row)} : {mark}"


QUESTIONS = {
    "names": names_question,
    "show": show_question,
    "bytes": bytes_question,
    "shape": shape_question,
    "order": order_question,
    "look": look_question,
    "twos": twos_question,
}
