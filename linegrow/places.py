"""Places: which letter stands where in a row, and by which way it came, without writing the row down."""

from linegrow.books import need_letter
from linegrow.checks import LAST_AGE, is_letter, is_tuple_of, is_within, need_age
from linegrow.errors import NoNumber, NoPlace, NoWay
from linegrow.rows import turned
from linegrow.sums import length_sums, single_sums, text_sum

LONGEST_STRETCH = 100


def need_place(place, last):
    if not is_within(place, 0, last):
        raise NoPlace("the row has no such place")


def way_behind(book, sums, many):
    # What counts is worth: with sizes this is the way of a place, with counts of a letter that of its many-th one.
    words = dict(book[1])
    told = []
    text = book[0]
    left = many
    for worths in reversed(sums):
        index = 0
        while worths[text[index]] <= left:
            left -= worths[text[index]]
            index += 1
        told.append((text[index], index))
        text = words[text[index]]
    return told


def worth_ahead(book, steps, sums):
    words = dict(book[1])
    told = 0
    text = book[0]
    for worths, step in zip(reversed(sums), steps):
        told += text_sum(text[:step[1]], worths)
        text = words[step[0]]
    return told


def way(book, age, place):
    need_age(age)
    sums = length_sums(book, age)
    need_place(place, text_sum(book[0], sums[age]) - 1)
    return way_behind(book, sums, place)


def letter_at(book, age, place):
    return way(book, age, place)[-1][0]


def is_step(thing, text):
    if not is_tuple_of(thing, 2) or not is_letter(thing[0]) or not is_within(thing[1], 0, len(text) - 1):
        return False
    return text[thing[1]] == thing[0]


def is_way(book, thing):
    if not isinstance(thing, list) or not 1 <= len(thing) <= LAST_AGE + 1:
        return False
    words = dict(book[1])
    text = book[0]
    for step in thing:
        if not is_step(step, text):
            return False
        text = words[step[0]]
    return True


def place_of(book, way):
    if not is_way(book, way):
        raise NoWay("this is the way of no place")
    return worth_ahead(book, way, length_sums(book, len(way) - 1))


def within(text, sizes, start, many):
    # Told beside the letters: where start lies among their own heirs, those of letters left out ahead not counted.
    kept = []
    inner = start
    begin = 0
    for letter in text:
        end = begin + sizes[letter]
        if max(begin, start) < min(end, start + many):
            if not kept:
                inner = start - begin
            kept.append(letter)
        begin = end
    return ("".join(kept), inner)


def read(book, sums, start, many):
    part = within(book[0], sums[-1], start, many)
    # What has no heirs in the stretch is left out at every age, so never more than `many` letters are turned.
    for sizes in reversed(sums[:-1]):
        part = within(turned(book, part[0]), sizes, part[1], many)
    return part[0]


def stretch(book, age, start, many):
    need_age(age)
    sums = length_sums(book, age)
    whole = text_sum(book[0], sums[age])
    need_place(start, whole)
    if not is_within(many, 0, LONGEST_STRETCH):
        raise NoNumber("a stretch has from 0 to 100 letters")
    need_place(start + many, whole)
    return read(book, sums, start, many)


def ahead(book, age, place, letter):
    need_age(age)
    sums = length_sums(book, age)
    whole = text_sum(book[0], sums[age])
    need_place(place, whole)
    need_letter(book, letter)
    singles = single_sums(book, age, letter)
    # No way leads to the row's end, where all letters are ahead.
    if place == whole:
        return text_sum(book[0], singles[age])
    return worth_ahead(book, way_behind(book, sums, place), singles)


def nth(book, age, letter, many):
    need_age(age)
    need_letter(book, letter)
    singles = single_sums(book, age, letter)
    need_place(many, text_sum(book[0], singles[age]) - 1)
    return worth_ahead(book, way_behind(book, singles, many), length_sums(book, age))
