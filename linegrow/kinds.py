"""Kinds: how the row of a letter, or of a book, grows for ever."""

from linegrow.books import letters, need_letter
from linegrow.rows import turned
from linegrow.sums import length_sums, text_sum
from linegrow.webs import is_simple, ring_of, rings, spread


def common_divisor(one, other):
    while other > 0:
        rest = one % other
        one = other
        other = rest
    return one


def common_multiple(numbers):
    told = 1
    for number in numbers:
        told = told * number // common_divisor(told, number)
    return told


def depth_by(book, ring, letter, depths):
    # All letters of a ring are as deep as each other, so only what leads out of it counts.
    if not ring:
        return max([depths[sign] for sign in turned(book, letter)], default=0)
    return 1 + max([depths[sign] for sign in turned(book, ring) if sign not in ring], default=0)


def ring_depths(book):
    ringed = dict([(letter, ring_of(book, letter)) for letter in letters(book)])
    told = dict([(letter, 0) for letter in letters(book)])
    # Each round settles the letters whose depth hangs on settled ones alone; there are no more rounds than letters.
    for step in letters(book):
        told = dict([(letter, depth_by(book, ringed[letter], letter, told)) for letter in letters(book)])
    return told


def end_age(book, text):
    # On the way to its end no letter comes of itself, so there are no more ages than letters.
    sums = length_sums(book, len(book[1]))
    age = 0
    while text_sum(text, sums[age]) > 0:
        age += 1
    return age


def text_kind(book, text):
    met = [ring for ring in rings(book) if ring[0] in spread(book, text)]
    if not met:
        return ("dies", end_age(book, text))
    if not all([is_simple(book, ring) for ring in met]):
        return ("doubles",)
    depths = ring_depths(book)
    return ("powers", max([depths[letter] for letter in text]) - 1, common_multiple([len(ring) for ring in met]))


def kind(book, letter):
    need_letter(book, letter)
    return text_kind(book, letter)


def row_kind(book):
    return text_kind(book, book[0])
