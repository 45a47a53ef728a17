"""Pieces: rows of two books shown alike for ever, by texts that both books turn into the same ones."""

from linegrow.books import letters
from linegrow.checks import LAST_AGE, is_text_of
from linegrow.errors import TooMany
from linegrow.rows import LONGEST_ROW, replaced, turned

MOST_PIECES = 30
LONGEST_PIECE = 40


def is_piece(thing, signs):
    return is_text_of(thing, signs, LONGEST_PIECE) and len(thing) > 0


def are_pieces(thing, signs):
    return isinstance(thing, list) and len(thing) <= MOST_PIECES and all([is_piece(part, signs) for part in thing])


def is_put_together(text, parts):
    # Which piece goes on can't be seen from the first ones alone, so every place that can be come to is kept.
    reached = [True] + [False] * len(text)
    for place in range(len(text)):
        if reached[place]:
            for part in parts:
                if text.startswith(part, place):
                    reached[place + len(part)] = True
    return reached[-1]


def goes_on(one, other, part, parts):
    grown = turned(one, part)
    return grown == turned(other, part) and is_put_together(grown, parts)


def shows_rows(one, other, thing):
    shared = [letter for letter in letters(one) if letter in letters(other)]
    if not are_pieces(thing, shared) or one[0] != other[0] or not is_put_together(one[0], thing):
        return False
    return all([goes_on(one, other, part, thing) for part in thing])


def cut(one, other, text):
    ones = dict(one[1])
    others = dict(other[1])
    told = []
    start = 0
    # Up to the last cut both are turned alike, so only what lies behind it has to be compared.
    for end in range(1, len(text) + 1):
        part = text[start:end]
        if replaced(part, ones) == replaced(part, others):
            told.append(part)
            start = end
    return told if start == len(text) else None


def plain_cutting(one, other):
    found = {}
    waiting = [one[0]]
    while waiting:
        parts = cut(one, other, waiting.pop())
        if parts is None:
            return None
        for part in parts:
            if part not in found:
                found[part] = True
                waiting.append(replaced(part, dict(one[1])))
        if len(found) > MOST_PIECES or any([len(part) > LONGEST_PIECE for part in parts]):
            return None
    return sorted(found)


def parting_age(one, other):
    ones = one[0]
    others = other[0]
    for age in range(LAST_AGE + 1):
        if ones != others:
            return age
        if len(ones) > LONGEST_ROW:
            return None
        ones = turned(one, ones)
        others = turned(other, others)
    return None


def rows_alike(one, other):
    if one[0] == other[0]:
        parts = plain_cutting(one, other)
        if parts is not None:
            return ("alike", parts)
    age = parting_age(one, other)
    if age is None:
        raise TooMany("neither pieces nor an age at which the rows part are found")
    return ("part", age)
