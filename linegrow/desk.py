"""The desk: books and beds kept by names, and rows of words by which they are made, changed and asked."""

from linegrow.alike import lengths_alike
from linegrow.beds import Bed
from linegrow.changed import beside, fast, later, mirrored, shed, thinned
from linegrow.checks import is_name
from linegrow.errors import NoName, NoRow
from linegrow.kinds import kind, row_kind
from linegrow.modular import length_at
from linegrow.parting import parting
from linegrow.pieces import rows_alike
from linegrow.places import letter_at, way
from linegrow.stretches import comes
from linegrow.sums import length
from linegrow.texts import read_book, show_book

FIGURES = "0123456789"
MOST_FIGURES = 300


def in_words(things):
    return " ".join([str(thing) for thing in things])


def make_book(things):
    return read_book(things[1])


def make_thin(things):
    return thinned(things[1])


def make_shed(things):
    return shed(things[1])


def make_mirror(things):
    return mirrored(things[1])


def make_later(things):
    return later(things[1], things[2])


def make_fast(things):
    return fast(things[1], things[2])


def make_beside(things):
    return beside(things[1], things[2])


def make_bed(things):
    return Bed(things[1])


def do_turn(things):
    things[0].turn(things[1], things[2])
    return "ok"


def do_undo(things):
    things[0].undo(things[1], things[2])
    return "ok"


def do_mark(things):
    things[0].mark(things[1], things[2])
    return "ok"


def do_grow(things):
    return str(things[0].grow(things[1]))


def do_back(things):
    return str(things[0].back(things[1]))


def tell_show(things):
    return show_book(things[0])


def tell_length(things):
    return str(length(things[0], things[1]))


def tell_mod(things):
    return str(length_at(things[0], things[1], things[2]))


def tell_letter(things):
    return letter_at(things[0], things[1], things[2])


def tell_way(things):
    return in_words([in_words(step) for step in way(things[0], things[1], things[2])])


def tell_kind(things):
    return in_words(kind(things[0], things[1]))


def tell_grows(things):
    return in_words(row_kind(things[0]))


def tell_alike(told):
    return in_words(["alike"] + told[1]) if told[0] == "alike" else in_words(told)


def tell_same(things):
    return tell_alike(lengths_alike(things[0], things[1]))


def tell_rows(things):
    return tell_alike(rows_alike(things[0], things[1]))


def tell_part(things):
    return in_words(parting(things[0], things[1], things[2], things[3])[:2])


def tell_comes(things):
    told = comes(things[0], things[1])
    return "never" if told is None else in_words(told)


def tell_size(things):
    return str(things[0].length())


def tell_at(things):
    return things[0].letter(things[1])


def tell_where(things):
    told = things[0].where(things[1])
    return "gone" if told is None else in_words(told)


# For each first word: what stands behind it, and what is made, done or told with that.
ROWS = {
    "book": ("newbook text", make_book),
    "thin": ("newbook book", make_thin),
    "shed": ("newbook book", make_shed),
    "mirror": ("newbook book", make_mirror),
    "later": ("newbook book number", make_later),
    "fast": ("newbook book number", make_fast),
    "beside": ("newbook book book", make_beside),
    "bed": ("newbed book", make_bed),
    "turn": ("bed letter word", do_turn),
    "undo": ("bed number letter", do_undo),
    "mark": ("bed name number", do_mark),
    "show": ("book", tell_show),
    "length": ("book number", tell_length),
    "mod": ("book number number", tell_mod),
    "letter": ("book number number", tell_letter),
    "way": ("book number number", tell_way),
    "kind": ("book letter", tell_kind),
    "grows": ("book", tell_grows),
    "same": ("book book", tell_same),
    "rows": ("book book", tell_rows),
    "part": ("book number book number", tell_part),
    "comes": ("book word", tell_comes),
    "grow": ("bed number", do_grow),
    "back": ("bed number", do_back),
    "size": ("bed", tell_size),
    "at": ("bed number", tell_at),
    "where": ("bed name", tell_where),
}


def is_number(word):
    if len(word) > MOST_FIGURES or not all([sign in FIGURES for sign in word]):
        return False
    return word == "0" or word[:1] not in ("", "0")


def is_formed(word, slot):
    if slot == "number":
        return is_number(word)
    if slot in ("letter", "word"):
        return len(word) > 0
    # A book's text may be whatever it likes: that it is none is for those who read it to say.
    return slot == "text" or is_name(word)


def row_words(row):
    if not isinstance(row, str):
        raise NoRow("a row is a text")
    # Behind the name of a new book all is its text, blanks too.
    words = row.split(" ", 2) if row.startswith("book ") else row.split(" ")
    if words[0] not in ROWS:
        raise NoRow("no row begins so")
    slots = ROWS[words[0]][0].split(" ")
    if len(words) != len(slots) + 1 or not all([is_formed(word, slot) for word, slot in zip(words[1:], slots)]):
        raise NoRow("this is no row")
    return words


def standing(shelf, name):
    if name not in shelf:
        raise NoName(name)
    return shelf[name]


class Desk:
    def __init__(self):
        self.books = {}
        self.beds = {}

    def thing(self, word, slot):
        if slot == "book":
            return standing(self.books, word)
        if slot == "bed":
            return standing(self.beds, word)
        if slot == "number":
            return int(word)
        return "" if slot == "word" and word == "-" else word

    def say(self, row):
        words = row_words(row)
        entry = ROWS[words[0]]
        slots = entry[0].split(" ")
        answer = entry[1]([self.thing(word, slot) for word, slot in zip(words[1:], slots)])
        if slots[0] == "newbook":
            self.books[words[1]] = answer
            return "ok"
        if slots[0] == "newbed":
            self.beds[words[1]] = answer
            return "ok"
        return answer
