"""Books: a first row, and for each letter the word that it is turned into."""

from linegrow.checks import is_letter, is_text_of, is_tuple_of
from linegrow.errors import NoBook, NoLetter

MOST_RULES = 8
LONGEST_FIRST = 12
LONGEST_WORD = 6


def has_letter_ahead(rule):
    # The word has to wait: what it may be made of is known only when all letters are.
    return is_tuple_of(rule, 2) and is_letter(rule[0])


def ruled_letters(rules):
    return [rule[0] for rule in rules]


def makes_rules(rules):
    if not isinstance(rules, (list, tuple)) or len(rules) > MOST_RULES:
        return False
    if not all([has_letter_ahead(rule) for rule in rules]):
        return False
    ruled = ruled_letters(rules)
    if len(set(ruled)) < len(ruled):
        return False
    return all([is_text_of(rule[1], ruled, LONGEST_WORD) for rule in rules])


def makes_book(first, rules):
    return makes_rules(rules) and is_text_of(first, ruled_letters(rules), LONGEST_FIRST)


def book_of(first, rules):
    if not makes_book(first, rules):
        raise NoBook("a book is a first row and a word of its letters for each letter")
    return (first, tuple(sorted(rules)))


def is_book(thing):
    if not is_tuple_of(thing, 2) or not makes_book(thing[0], thing[1]):
        return False
    # Rules in a list, or not rising, make a book but are not yet those of one.
    return thing == book_of(thing[0], thing[1])


def letters(book):
    return "".join(ruled_letters(book[1]))


def need_letter(book, letter):
    # Things of some kinds can't be compared or looked up at all, so the kind is asked first.
    if not is_letter(letter) or letter not in letters(book):
        raise NoLetter("this is no letter of the book")


def word(book, letter):
    need_letter(book, letter)
    return dict(book[1])[letter]
