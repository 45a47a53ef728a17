"""What counts as a whole number, a letter, a text and an age, the same for every part of the package."""

from linegrow.errors import NoAge, NoNumber

SMALL_LETTERS = "abcdefghijklmnopqrstuvwxyz"
LAST_AGE = 300
LONGEST_NAME = 8


def is_whole(thing):
    # To Python True and False are ints; here they are no numbers.
    return isinstance(thing, int) and not isinstance(thing, bool)


def is_within(thing, least, most):
    return is_whole(thing) and least <= thing <= most


def is_tuple_of(thing, many):
    return isinstance(thing, tuple) and len(thing) == many


def is_letter(thing):
    # The length is asked ahead of `in`, which would find the empty text and longer ones as well.
    return isinstance(thing, str) and len(thing) == 1 and thing in SMALL_LETTERS


def is_text_of(thing, signs, most):
    return isinstance(thing, str) and len(thing) <= most and all([sign in signs for sign in thing])


def is_name(thing):
    return is_text_of(thing, SMALL_LETTERS, LONGEST_NAME) and len(thing) > 0


def need_age(age):
    if not is_within(age, 0, LAST_AGE):
        raise NoAge("an age is a whole number from 0 to 300")


def need_far_age(age):
    if not is_within(age, 0, 10 ** 60 - 1):
        raise NoAge("here an age is a whole number from 0 to 10 ** 60 - 1")


def need_number(number):
    if not is_within(number, 1, 10 ** 30 - 1):
        raise NoNumber("a number is a whole number from 1 to 10 ** 30 - 1")
