"""Rows: the first row of a book, turned from age to age, written out as texts."""

from linegrow.checks import is_text_of, need_age
from linegrow.errors import NoLetter, TooLong

LONGEST_ROW = 600


def replaced(text, words):
    return "".join([words[letter] for letter in text])


def turned(book, text):
    words = dict(book[1])
    if not is_text_of(text, words, LONGEST_ROW):
        raise NoLetter("this is no text of at most 600 letters of the book")
    return replaced(text, words)


def rows(book, age):
    need_age(age)
    told = [book[0]]
    while len(told) <= age:
        later = turned(book, told[-1])
        # Checked at every age: a row that was too long may shrink again later on.
        if len(later) > LONGEST_ROW:
            raise TooLong("a row on the way has more than 600 letters")
        told.append(later)
    return told


def row(book, age):
    return rows(book, age)[-1]
