"""Rows kept: whether a row begins a later one, where such rows end, and the letters of the row without end."""

from linegrow.books import letters
from linegrow.checks import LAST_AGE, is_whole, is_within, need_age
from linegrow.errors import NoAge, NoPlace, NotKept, TooFar
from linegrow.kinds import text_kind
from linegrow.parting import parting
from linegrow.places import letter_at
from linegrow.sums import counts, first_lengths


def need_turn(start, turn):
    need_age(start)
    if not is_within(turn, 1, LAST_AGE - start):
        raise NoAge("a turn is a whole number from 1 to 300 less the start")


def keeps(book, start, turn):
    need_turn(start, turn)
    return parting(book, start, book, start + turn)[0] in ("alike", "first")


def need_kept(book, start, turn):
    if not keeps(book, start, turn):
        raise NotKept("the row at the start doesn't begin the row one turn later")


def letters_behind(book, start, turn):
    # The later row begins with the whole of the earlier one, so what it has more of a letter stands behind that.
    lines = list(zip(letters(book), counts(book, start), counts(book, start + turn)))
    return "".join([letter for letter, fewer, more in lines if more > fewer])


def ended(book, start, turn):
    need_kept(book, start, turn)
    fate = text_kind(book, letters_behind(book, start, turn))
    if fate[0] != "dies":
        return None
    # Each turn adds what comes of the letters behind, so the rows are the same once all of that is dead.
    age = start
    while age - start < fate[1]:
        age += turn
    return first_lengths(book, age + 1)[age]


def endless(book, start, turn, place):
    need_turn(start, turn)
    if not is_whole(place) or place < 0:
        raise NoPlace("a place without end is a whole number from 0 on")
    need_kept(book, start, turn)
    lengths = first_lengths(book, LAST_AGE + 1)
    for age in range(start, LAST_AGE + 1, turn):
        if place < lengths[age]:
            return letter_at(book, age, place)
    raise TooFar("no such age up to 300 has the place")
