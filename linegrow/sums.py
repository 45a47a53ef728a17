"""Sums: how many letters a row has, and how many of each, without writing the row down."""

from linegrow.books import letters
from linegrow.checks import need_age


def tally(book, text):
    return [text.count(letter) for letter in letters(book)]


def table(book):
    return [tally(book, rule[1]) for rule in book[1]]


def column(lines, place):
    return [line[place] for line in lines]


def columns(lines):
    return [column(lines, place) for place in range(len(lines))]


def paired_sum(ones, others):
    return sum([one * other for one, other in zip(ones, others)])


def one_age_on(line, sources):
    return [paired_sum(line, source) for source in sources]


def counts(book, age):
    need_age(age)
    return first_counts(book, age + 1)[age]


def first_counts(book, many):
    sources = columns(table(book))
    told = [tally(book, book[0])]
    while len(told) < many:
        told.append(one_age_on(told[-1], sources))
    # Of no ages at all not even the first row's counts are told.
    return told[:many]


def length(book, age):
    return sum(counts(book, age))


def weight(book, weights, age):
    return paired_sum(weights, counts(book, age))


def first_weights(book, weights, many):
    return [paired_sum(weights, line) for line in first_counts(book, many)]


def first_lengths(book, many):
    return [sum(line) for line in first_counts(book, many)]


def text_sum(text, worths):
    return sum([worths[letter] for letter in text])


def words_by_age(book, age):
    return [dict(book[1])] * (age + 1)


def letter_sums(words, worths):
    told = [worths]
    # What comes of a letter is what comes, one age on, of the letters of its word; at the last age none is turned.
    for spelling in reversed(words[:-1]):
        told.append(dict([(letter, text_sum(spelling[letter], told[-1])) for letter in spelling]))
    return told


def size_sums(words):
    return letter_sums(words, dict([(letter, 1) for letter in words[-1]]))


def length_sums(book, age):
    return size_sums(words_by_age(book, age))


def single_sums(book, age, single):
    worths = dict([(letter, 1 if letter == single else 0) for letter in letters(book)])
    return letter_sums(words_by_age(book, age), worths)


def letter_lengths(book, age):
    need_age(age)
    return list(length_sums(book, age)[age].values())
