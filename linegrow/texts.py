"""Texts: books written in one line, and read back."""

from linegrow.books import is_book
from linegrow.errors import NoText


def show_book(book):
    return book[0] + ":" + "".join([" " + rule[0] + "=" + rule[1] for rule in book[1]])


def read_rule(text):
    sides = text.partition("=")
    return (sides[0], sides[2])


def read_book(text):
    if isinstance(text, str):
        sides = text.partition(":")
        thing = (sides[0], tuple([read_rule(each) for each in sides[2].split(" ")[1:]]))
        # What was read loosely counts only where the book is written just so.
        if is_book(thing) and show_book(thing) == text:
            return thing
    raise NoText("this is the text of no book")
