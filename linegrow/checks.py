"""What counts as a whole number, a letter, a text and an age, the same for every part of the package."""

from linegrow.errors import NoAge

SMALL_LETTERS = "abcdefghijklmnopqrstuvwxyz"
LAST_AGE = 300


def is_whole(thing):
    # To Python True and False are ints; here they are no numbers.
    return isinstance(thing, int) and not isinstance(thing, bool)


def is_letter(thing):
    # The length is asked ahead of `in`, which would find the empty text and longer ones as well.
    return isinstance(thing, str) and len(thing) == 1 and thing in SMALL_LETTERS


def is_text_of(thing, signs, most):
    return isinstance(thing, str) and len(thing) <= most and all([sign in signs for sign in thing])


def need_age(age):
    if not is_whole(age) or age < 0 or age > LAST_AGE:
        raise NoAge("an age is a whole number from 0 to 300")
