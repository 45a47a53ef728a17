"""Stretches that come: which texts of a few letters ever stand in a row, at which age and place first."""

from linegrow.books import letters
from linegrow.changed import thinned
from linegrow.checks import SMALL_LETTERS, is_text_of, is_within
from linegrow.errors import NoNumber, NoWord, TooLong, TooMany
from linegrow.kinds import kind
from linegrow.rows import replaced, row, rows, turned
from linegrow.sums import columns, length_sums, one_age_on, paired_sum, table, tally

MOST_LETTERS = 4
LONGEST_LETTER_ROW = 40
MOST_STRETCHES = 100


def first_places(text, many):
    told = {}
    for start in range(len(text)):
        for end in range(start + 1, min(start + many, len(text)) + 1):
            told.setdefault(text[start:end], start)
    return told


def last_death(book):
    fates = [kind(book, letter) for letter in letters(book)]
    return max([fate[1] for fate in fates if fate[0] == "dies"], default=0)


def need_short_rows(book, last):
    for sizes in length_sums(book, last):
        if any([size > LONGEST_LETTER_ROW for size in sizes.values()]):
            raise TooLong("the row of a letter is too long before all that dies is dead")


def need_few(found):
    if len(found) > MOST_STRETCHES:
        raise TooMany("there are more than a hundred unlike stretches")


def at_first_age(book, many):
    return dict([(text, tally(book, book[0][:place])) for text, place in first_places(book[0], many).items()])


def at_next_age(book, many, fresh, found):
    sources = columns(table(book))
    told = {}
    for text, ahead in fresh.items():
        grown = turned(book, text)
        base = one_age_on(ahead, sources)
        for part, place in first_places(grown, many).items():
            spot = [one + other for one, other in zip(base, tally(book, grown[:place]))]
            if part not in found and (part not in told or sum(spot) < sum(told[part])):
                told[part] = spot
    return told


# For a thinned book alone: where no letter dies, a stretch comes of one that is no longer, so only what is new at an
# age can bring something new at the next. Beside the age stands how many of each letter are ahead of the stretch.
def lasting_stretches(book, many):
    found = {}
    fresh = at_first_age(book, many)
    age = 0
    while fresh:
        found.update([(text, (age, ahead)) for text, ahead in fresh.items()])
        need_few(found)
        fresh = at_next_age(book, many, fresh, found)
        age += 1
    return found


# From the age on at which all that dies is dead, the row is what came, in so many ages, of the letters that last.
def all_stretches(book, many):
    last = last_death(book)
    need_short_rows(book, last)
    told = {}
    for age, text in enumerate(rows(book, last)[:last]):
        for part, place in first_places(text, many).items():
            told.setdefault(part, (age, place))
    thin = thinned(book)
    grown = dict([(letter, row((letter, book[1]), last)) for letter in letters(thin)])
    sizes = [len(grown[letter]) for letter in letters(thin)]
    for text, first in lasting_stretches(thin, many).items():
        base = paired_sum(first[1], sizes)
        for part, place in first_places(replaced(text, grown), many).items():
            spot = (last + first[0], base + place)
            told[part] = min(told.get(part, spot), spot)
    need_few(told)
    return told


def stretches(book, many):
    if not is_within(many, 1, MOST_LETTERS):
        raise NoNumber("stretches have from 1 to 4 letters")
    found = all_stretches(book, many)
    return [(text, found[text][0], found[text][1]) for text in sorted(found) if len(text) == many]


def comes(book, text):
    if not is_text_of(text, SMALL_LETTERS, MOST_LETTERS) or len(text) == 0:
        raise NoWord("a stretch that is asked for is a text of 1 to 4 letters")
    return all_stretches(book, len(text)).get(text)
