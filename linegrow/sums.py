"""Sums: how many letters a row has, and how many of each, without writing the row down."""

from linegrow.books import letters
from linegrow.checks import need_age


def tally(book, text):
    return [text.count(letter) for letter in letters(book)]


def table(book):
    return [tally(book, rule[1]) for rule in book[1]]


def column(lines, place):
    return [line[place] for line in lines]


def paired_sum(ones, others):
    return sum([one * other for one, other in zip(ones, others)])


def counts(book, age):
    need_age(age)
    lines = table(book)
    columns = [column(lines, place) for place in range(len(lines))]
    told = tally(book, book[0])
    for step in range(age):
        told = [paired_sum(told, sources) for sources in columns]
    return told


def length(book, age):
    return sum(counts(book, age))


def weight(book, weights, age):
    return paired_sum(weights, counts(book, age))


def letter_lengths(book, age):
    need_age(age)
    lines = table(book)
    told = [1 for line in lines]
    # A letter's row at an age is made of the rows, one age younger, of the letters of its word.
    for step in range(age):
        told = [paired_sum(line, told) for line in lines]
    return told
