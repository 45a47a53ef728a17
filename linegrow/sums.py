"""Sums: how many letters a row has, and how many of each, without writing the row down."""

from linegrow.books import letters
from linegrow.checks import need_age


def tally(book, text):
    return [text.count(letter) for letter in letters(book)]


def table(book):
    return [tally(book, rule[1]) for rule in book[1]]


def column(lines, place):
    return [line[place] for line in lines]


def columns(lines):
    return [column(lines, place) for place in range(len(lines))]


def paired_sum(ones, others):
    return sum([one * other for one, other in zip(ones, others)])


def counts(book, age):
    need_age(age)
    sources = columns(table(book))
    told = tally(book, book[0])
    for step in range(age):
        told = [paired_sum(told, source) for source in sources]
    return told


def length(book, age):
    return sum(counts(book, age))


def weight(book, weights, age):
    return paired_sum(weights, counts(book, age))


def text_sum(text, worths):
    return sum([worths[letter] for letter in text])


def letter_sums(book, age, worths):
    """For each age from 0 on a dict: what the letters of a letter's row are worth together."""
    told = [worths]
    # A letter's row at an age is made of the rows, one age younger, of the letters of its word.
    while len(told) <= age:
        told.append(dict([(rule[0], text_sum(rule[1], told[-1])) for rule in book[1]]))
    return told


def length_sums(book, age):
    return letter_sums(book, age, dict([(letter, 1) for letter in letters(book)]))


def single_sums(book, age, single):
    return letter_sums(book, age, dict([(letter, 1 if letter == single else 0) for letter in letters(book)]))


def letter_lengths(book, age):
    need_age(age)
    return list(length_sums(book, age)[age].values())
