"""Wide books: rules by which a letter is turned as its neighbours ask for, and the rows that come of them."""

from linegrow.books import LONGEST_FIRST, LONGEST_WORD
from linegrow.changed import backward
from linegrow.checks import SMALL_LETTERS, is_letter, is_text_of, is_tuple_of, is_within
from linegrow.errors import NoAge, NoBook, NoLetter, TooLong
from linegrow.rows import LONGEST_ROW

LAST_WIDE_AGE = 40
MOST_WIDE_RULES = 20
NO_NEIGHBOUR = "."


def is_neighbour(thing):
    return is_letter(thing) or (isinstance(thing, str) and thing == NO_NEIGHBOUR)


def is_side(thing):
    return is_neighbour(thing) or (isinstance(thing, str) and thing == "")


def is_wide_rule(thing):
    if not is_tuple_of(thing, 4) or not is_side(thing[0]) or not is_letter(thing[1]) or not is_side(thing[2]):
        return False
    return is_text_of(thing[3], SMALL_LETTERS, LONGEST_WORD) and len(thing[3]) > 0


def makes_wide(first, rules):
    if not isinstance(rules, (list, tuple)) or len(rules) > MOST_WIDE_RULES:
        return False
    return all([is_wide_rule(rule) for rule in rules]) and is_text_of(first, SMALL_LETTERS, LONGEST_FIRST)


def wide_of(first, rules):
    if not makes_wide(first, rules):
        raise NoBook("a wide book is a first row and rules of a left, a letter, a right and a word")
    return (first, tuple(rules))


def is_wide(thing):
    return is_tuple_of(thing, 2) and isinstance(thing[1], tuple) and makes_wide(thing[0], thing[1])


def first_fitting(rules, left, letter, right):
    for number, rule in enumerate(rules):
        if rule[0] in ("", left) and rule[1] == letter and rule[2] in ("", right):
            return number
    return None


def fits(wide, left, letter, right):
    if not is_neighbour(left) or not is_letter(letter) or not is_neighbour(right):
        raise NoLetter("a letter has a letter or none beside it")
    return first_fitting(wide[1], left, letter, right)


def wide_words(rules, text):
    framed = NO_NEIGHBOUR + text + NO_NEIGHBOUR
    told = []
    for place, letter in enumerate(text):
        number = first_fitting(rules, framed[place], letter, framed[place + 2])
        told.append(letter if number is None else rules[number][3])
    return told


def wide_turned(wide, text):
    if not is_text_of(text, SMALL_LETTERS, LONGEST_ROW):
        raise NoLetter("this is no text of at most 600 letters")
    return "".join(wide_words(wide[1], text))


# A row is kept as parts, the heirs of each letter of the first row, since where these begin is asked for as well.
def next_parts(rules, parts):
    words = wide_words(rules, "".join(parts))
    told = []
    for start, part in zip(starts_of(parts), parts):
        told.append("".join(words[start:start + len(part)]))
    if total(told) > LONGEST_ROW:
        raise TooLong("the row has more than 600 letters")
    return told


def total(parts):
    return sum([len(part) for part in parts])


def starts_of(parts):
    told = []
    place = 0
    for part in parts:
        told.append(place)
        place += len(part)
    return told


def parts_at(wide, age):
    if not is_within(age, 0, LAST_WIDE_AGE):
        raise NoAge("an age of a wide book is a whole number from 0 to 40")
    parts = list(wide[0])
    for step in range(age):
        parts = next_parts(wide[1], parts)
    return parts


def wide_row(wide, age):
    return "".join(parts_at(wide, age))


def starts(wide, age):
    return starts_of(parts_at(wide, age))


def wide_plain(book):
    # A wide book has no empty words, so a book with one is refused like any other rules that make none.
    return wide_of(book[0], [("", rule[0], "", rule[1]) for rule in book[1]])


def wide_mirrored(wide):
    return (backward(wide[0]), tuple([(rule[2], rule[1], rule[0], backward(rule[3])) for rule in wide[1]]))
