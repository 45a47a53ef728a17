"""What the document promises over the whole program: the interface, and that nothing is shared with the asker."""

import copy
import importlib
import inspect
import pathlib
import random
import unittest

from helpers import refused, some_books, written
from linegrow.alike import lengths_alike
from linegrow.beds import Bed
from linegrow.changed import thinned
from linegrow.desk import Desk
from linegrow.hedges import Hedge
from linegrow.heirs import forebear, heirs
from linegrow.papers import paper
from linegrow.places import letter_at, place_of, stretch, way
from linegrow.stretches import stretches
from linegrow.sums import length
from linegrow.wide import wide_of

DEFS = {
    "books": ["book_of(first, rules)", "is_book(thing)", "letters(book)", "word(book, letter)"],
    "rows": ["turned(book, text)", "row(book, age)", "rows(book, age)"],
    "sums": ["table(book)", "counts(book, age)", "length(book, age)", "weight(book, weights, age)",
             "letter_lengths(book, age)"],
    "modular": ["table_at(book, age, number)", "counts_at(book, age, number)", "length_at(book, age, number)"],
    "places": ["letter_at(book, age, place)", "way(book, age, place)", "place_of(book, way)",
               "stretch(book, age, start, many)", "ahead(book, age, place, letter)", "nth(book, age, letter, many)"],
    "heirs": ["heirs(book, age, place, more)", "forebear(book, age, place, less)"],
    "webs": ["reached(book, letter)", "rings(book)"],
    "kinds": ["kind(book, letter)", "row_kind(book)"],
    "papers": ["paper(book, letter)"],
    "looker": ["shows(book, letter, paper)"],
    "changed": ["thinned(book)", "shed(book)", "later(book, age)", "fast(book, many)", "called(book, names)",
                "mirrored(book)", "beside(one, other)"],
    "joined": ["classes(book, groups)", "apart(book, groups, letter, second)", "shrunk(book, groups)"],
    "ties": ["tie(one, other=None)", "is_tie(thing, one, other=None)", "length_tie(book)", "count_tie(book, letter)",
             "weight_tie(book, weights)", "unwound(c, starts, age, number)"],
    "alike": ["lengths_alike(one, other)", "weights_alike(one, weights, other, others)", "counts_alike(one, other)",
              "settled(one, other)", "lag(one, other, most)"],
    "parting": ["twins(one, other)", "shown(one, age, other, second, thing)", "parting(one, age, other, second)"],
    "kept": ["keeps(book, start, turn)", "ended(book, start, turn)", "endless(book, start, turn, place)"],
    "stretches": ["stretches(book, many)", "comes(book, text)"],
    "pieces": ["shows_rows(one, other, thing)", "rows_alike(one, other)"],
    "wide": ["wide_of(first, rules)", "is_wide(thing)", "fits(wide, left, letter, right)", "wide_turned(wide, text)",
             "wide_row(wide, age)", "starts(wide, age)", "wide_plain(book)", "wide_mirrored(wide)"],
    "texts": ["show_book(book)", "read_book(text)"],
}
CLASSES = {
    ("beds", "Bed"): [
        "__init__(self, book)", "age(self)", "grow(self, many)", "back(self, many)", "turn(self, letter, word)",
        "turn_at(self, age, letter, word)", "undo(self, age, letter)", "turns(self)", "word(self, age, letter)",
        "length(self)", "counts(self)", "letter(self, place)", "stretch(self, start, many)", "row(self)",
        "mark(self, name, place)", "where(self, name)", "marks(self)", "twin(self)",
    ],
    ("hedges", "Hedge"): [
        "__init__(self, wide)", "age(self)", "grow(self)", "row(self, age)", "starts(self, age)",
        "exchange(self, place, letter)", "put_in(self, place, letter)", "take_out(self, place)", "now(self)",
        "twin(self)",
    ],
    ("desk", "Desk"): ["__init__(self)", "say(self, row)"],
}

GOLD = ("a", (("a", "ab"), ("b", "a")))
GAPS = ("dacab", (("a", "cabd"), ("b", "dba"), ("c", "dd"), ("d", "")))
LINE = ("abc", (("a", "ab"), ("b", "b"), ("c", ""), ("d", "d")))
WIDE = ("abc", (("", "a", "b", "ab"), ("a", "b", ".", "ba")))

# A call for each part of the interface that is handed lists or tells some: the name, and what is handed in.
CALLS = [
    ("books", "book_of", ["a", [("b", "a"), ("a", "ab")]]), ("rows", "rows", [GOLD, 5]), ("sums", "table", [GAPS]),
    ("sums", "counts", [GAPS, 7]), ("sums", "weight", [GAPS, [1, -2, 3, 0], 9]), ("sums", "letter_lengths", [GAPS, 5]),
    ("modular", "table_at", [GAPS, 10 ** 50, 97]), ("modular", "counts_at", [GAPS, 10 ** 50, 97]),
    ("places", "way", [GOLD, 9, 30]), ("places", "place_of", [GOLD, [("a", 0), ("b", 1), ("a", 0)]]),
    ("heirs", "heirs", [GOLD, 4, 2, 9]), ("webs", "rings", [GAPS]), ("kinds", "kind", [LINE, "a"]),
    ("papers", "paper", [LINE, "a"]), ("papers", "paper", [LINE, "c"]), ("papers", "paper", [GOLD, "b"]),
    ("looker", "shows", [LINE, "a", paper(LINE, "a")]), ("changed", "thinned", [GAPS]),
    ("joined", "classes", [GAPS, ["ab", "cd"]]), ("joined", "apart", [GAPS, ["ab", "cd"], "a", "b"]),
    ("joined", "shrunk", [GAPS, ["abcd"]]), ("ties", "tie", [GAPS]), ("ties", "tie", [GAPS, GOLD]),
    ("ties", "is_tie", [[1, 1], GOLD]), ("ties", "length_tie", [GAPS]), ("ties", "count_tie", [GAPS, "b"]),
    ("ties", "weight_tie", [GAPS, [3, 1, -4, 1]]), ("ties", "unwound", [[1, 1], [1, 2], 10 ** 40, 10 ** 9]),
    ("alike", "lengths_alike", [GOLD, GOLD]), ("alike", "weights_alike", [GOLD, [1, 2], GOLD, [2, 1]]),
    ("alike", "weights_alike", [GOLD, [1, 2], GOLD, [1, 2]]), ("alike", "counts_alike", [GOLD, GOLD]),
    ("parting", "parting", [GAPS, 4, GAPS, 5]), ("parting", "shown", [GOLD, 4, GOLD, 4, [("a", 3), ("b", 3)]]),
    ("stretches", "stretches", [GAPS, 3]), ("pieces", "rows_alike", [GOLD, GOLD]),
    ("pieces", "shows_rows", [GOLD, GOLD, ["b", "a", "b"]]),
    ("wide", "wide_of", ["abc", [("", "a", "b", "ab"), ("a", "b", ".", "ba")]]), ("wide", "starts", [WIDE, 3]),
    ("wide", "wide_mirrored", [WIDE]), ("texts", "read_book", ["ab: a=ab b="]),
]


def spoil(thing):
    """Does whatever can be done to a told thing, within it too."""
    if isinstance(thing, (list, tuple)):
        for each in thing:
            spoil(each)
    if isinstance(thing, list):
        thing.append("spoilt")
        thing[0] = "spoilt"
        thing.reverse()


def found(module, name):
    return getattr(importlib.import_module("linegrow." + module), name)


class TestInterface(unittest.TestCase):
    def test_defs(self):
        for module, lines in DEFS.items():
            for line in lines:
                name = line.partition("(")[0]
                self.assertEqual(name + str(inspect.signature(found(module, name))), line)

    def test_classes(self):
        for (module, name), lines in CLASSES.items():
            for line in lines:
                method = getattr(found(module, name), line.partition("(")[0])
                self.assertEqual(line.partition("(")[0] + str(inspect.signature(method)), line)

    def test_the_package_holds_no_tests_and_asks_for_nothing_else(self):
        package = pathlib.Path(importlib.import_module("linegrow").__file__).parent
        self.assertEqual([path.name for path in package.iterdir() if path.suffix != ".py" and path.name != "__pycache__"], [])
        for module in list(DEFS) + ["beds", "hedges", "desk", "errors"]:
            self.assertTrue((package / (module + ".py")).is_file())


class TestTheAskersOwn(unittest.TestCase):
    def test_nothing_handed_in_is_changed(self):
        for module, name, things in CALLS:
            handed = copy.deepcopy(things)
            found(module, name)(*handed)
            self.assertEqual(handed, things)

    def test_what_is_told_can_be_spoilt(self):
        for module, name, things in CALLS:
            call = found(module, name)
            handed = copy.deepcopy(things)
            told = call(*handed)
            kept = copy.deepcopy(told)
            spoil(handed)
            self.assertEqual(told, kept, name)
            spoil(told)
            self.assertEqual(call(*copy.deepcopy(things)), kept, name)

    def test_what_is_told_stays(self):
        bed, hedge = Bed(GOLD), Hedge(WIDE)
        bed.turn("a", "bb")
        bed.mark("m", 0)
        hedge.grow()
        told = [bed.turns(), bed.marks(), bed.counts(), hedge.starts(1), hedge.exchange(0, "b"), hedge.now()]
        kept = copy.deepcopy(told)
        bed.turn("a", "b")
        bed.mark("n", 0)
        bed.grow(3)
        hedge.grow()
        hedge.take_out(2)
        self.assertEqual(told, kept)
        for each in told:
            spoil(each)
        self.assertEqual((bed.turns(), bed.marks()), ([(0, "a", "b")], ["m", "n"]))
        self.assertEqual(hedge.now(), ("bb", WIDE[1]))


class TestTheWhole(unittest.TestCase):
    """Parts of the program held against one another, where no row can be written out."""

    def test_places_ways_heirs_and_stretches(self):
        chance = random.Random(1001)
        for book in some_books(25, 1002, 3, 5):
            age = chance.randint(0, 250)
            whole = length(book, age)
            if whole == 0:
                continue
            place = chance.randrange(whole)
            self.assertEqual(place_of(book, way(book, age, place)), place)
            self.assertEqual(stretch(book, age, place, 1), letter_at(book, age, place))
            start, many = heirs(book, age, place, 50)
            self.assertLessEqual(start + many, length(book, age + 50))
            if many:
                self.assertEqual(forebear(book, age + 50, start, 50), place)
                self.assertEqual(forebear(book, age + 50, start + many - 1, 50), place)
            if start:
                self.assertNotEqual(forebear(book, age + 50, start - 1, 50), place)

    def test_a_bed_is_as_its_book_and_a_desk_as_its_beds(self):
        for book in some_books(12, 1003, 3, 4):
            bed, desk = Bed(book), Desk()
            desk.say("book b " + book[0] + ":" + "".join(f" {letter}={text}" for letter, text in book[1]))
            desk.say("bed b b")
            bed.grow(200)
            desk.say("grow b 200")
            self.assertEqual(desk.say("size b"), str(bed.length()))
            self.assertEqual(desk.say("length b 200"), str(bed.length()))

    def test_what_is_told_to_come_comes(self):
        for book in some_books(20, 1004, 2, 3):
            try:
                told = stretches(book, 2)
            except ValueError:
                continue
            for text, age, place in told:
                self.assertEqual(stretch(book, age, place, 2), text)
            for age in range(6):
                row = written(*book, age)
                self.assertLessEqual({row[place:place + 2] for place in range(len(row) - 1)}, {each[0] for each in told})

    def test_lengths_that_are_alike_at_first(self):
        for book in some_books(20, 1005, 3, 4):
            self.assertEqual(lengths_alike(book, book)[0], "alike")
            thin = thinned(book)
            told = lengths_alike(book, thin)
            for age in range(16):
                if told[0] == "alike" or age < told[1]:
                    self.assertEqual(length(book, age), length(thin, age))
            if told[0] == "part":
                self.assertNotEqual(length(book, told[1]), length(thin, told[1]))

    def test_refusals_behind_one_another(self):
        wide = wide_of("a", [])
        refused(self, "NoPlace", Hedge(wide).exchange, None, None)
        refused(self, "NoMark", Bed(GOLD).mark, None, None)
        refused(self, "NoAge", Bed(GOLD).turn_at, None, None, None)
        refused(self, "NoRow", Desk().say, None)


if __name__ == "__main__":
    unittest.main()
