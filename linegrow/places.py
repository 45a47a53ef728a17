"""Places: which letter stands where in a row, and by which way it came, without writing the row down."""

from linegrow.books import need_letter
from linegrow.checks import LAST_AGE, is_letter, is_tuple_of, is_within, need_age
from linegrow.errors import NoNumber, NoPlace, NoWay
from linegrow.rows import replaced
from linegrow.sums import length_sums, single_sums, text_sum, words_by_age

LONGEST_STRETCH = 100


def need_place(place, last):
    if not is_within(place, 0, last):
        raise NoPlace("the row has no such place")


# Here words has for each age the word of each letter, since a bed's words are not the same at all ages.
def way_behind(first, words, sums, many):
    # What counts is worth: with sizes this is the way of a place, with counts of a letter that of its many-th one.
    told = []
    text = first
    left = many
    for worths, spelling in zip(reversed(sums), words):
        index = 0
        while worths[text[index]] <= left:
            left -= worths[text[index]]
            index += 1
        told.append((text[index], index))
        text = spelling[text[index]]
    return told


def worth_ahead(first, words, steps, sums):
    told = 0
    text = first
    for worths, spelling, step in zip(reversed(sums), words, steps):
        told += text_sum(text[:step[1]], worths)
        text = spelling[step[0]]
    return told


def way(book, age, place):
    need_age(age)
    sums = length_sums(book, age)
    need_place(place, text_sum(book[0], sums[age]) - 1)
    return way_behind(book[0], words_by_age(book, age), sums, place)


def letter_at(book, age, place):
    return way(book, age, place)[-1][0]


def is_step(thing, text):
    if not is_tuple_of(thing, 2) or not is_letter(thing[0]) or not is_within(thing[1], 0, len(text) - 1):
        return False
    return text[thing[1]] == thing[0]


def is_way(book, thing):
    if not isinstance(thing, list) or not 1 <= len(thing) <= LAST_AGE + 1:
        return False
    words = dict(book[1])
    text = book[0]
    for step in thing:
        if not is_step(step, text):
            return False
        text = words[step[0]]
    return True


def place_of(book, way):
    if not is_way(book, way):
        raise NoWay("this is the way of no place")
    age = len(way) - 1
    return worth_ahead(book[0], words_by_age(book, age), way, length_sums(book, age))


def within(text, sizes, start, many):
    # Told beside the letters: where start lies among their own heirs, those of letters left out ahead not counted.
    kept = []
    inner = start
    begin = 0
    for letter in text:
        end = begin + sizes[letter]
        if max(begin, start) < min(end, start + many):
            if not kept:
                inner = start - begin
            kept.append(letter)
        begin = end
    return ("".join(kept), inner)


def read(first, words, sums, start, many):
    part = within(first, sums[-1], start, many)
    # What has no heirs in the stretch is left out at every age, so never more than `many` letters are turned.
    for sizes, spelling in zip(reversed(sums[:-1]), words):
        part = within(replaced(part[0], spelling), sizes, part[1], many)
    return part[0]


def need_stretch(start, many, whole):
    need_place(start, whole)
    if not is_within(many, 0, LONGEST_STRETCH):
        raise NoNumber("a stretch has from 0 to 100 letters")
    need_place(start + many, whole)


def stretch(book, age, start, many):
    need_age(age)
    sums = length_sums(book, age)
    need_stretch(start, many, text_sum(book[0], sums[age]))
    return read(book[0], words_by_age(book, age), sums, start, many)


def ahead(book, age, place, letter):
    need_age(age)
    sums = length_sums(book, age)
    whole = text_sum(book[0], sums[age])
    need_place(place, whole)
    need_letter(book, letter)
    singles = single_sums(book, age, letter)
    # No way leads to the row's end, where all letters are ahead.
    if place == whole:
        return text_sum(book[0], singles[age])
    words = words_by_age(book, age)
    return worth_ahead(book[0], words, way_behind(book[0], words, sums, place), singles)


def nth(book, age, letter, many):
    need_age(age)
    need_letter(book, letter)
    singles = single_sums(book, age, letter)
    need_place(many, text_sum(book[0], singles[age]) - 1)
    words = words_by_age(book, age)
    return worth_ahead(book[0], words, way_behind(book[0], words, singles, many), length_sums(book, age))
