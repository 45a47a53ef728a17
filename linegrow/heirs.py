"""Heirs and forebears: what comes of the letter at a place, and of which letter it came."""

from linegrow.checks import LAST_AGE, is_within
from linegrow.errors import NoAge
from linegrow.places import way, worth_ahead
from linegrow.sums import length_sums, words_by_age


def heirs(book, age, place, more):
    steps = way(book, age, place)
    if not is_within(more, 0, LAST_AGE - age):
        raise NoAge("there is no age so much later")
    sums = length_sums(book, age + more)
    return (worth_ahead(book[0], words_by_age(book, age), steps, sums[more:]), sums[more][steps[-1][0]])


def forebear(book, age, place, less):
    steps = way(book, age, place)
    if not is_within(less, 0, age):
        raise NoAge("there is no age so much before")
    elder = age - less
    return worth_ahead(book[0], words_by_age(book, elder), steps, length_sums(book, elder))
