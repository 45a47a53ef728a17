import math
import unittest

from helpers import later_letters, layered_books, no_letters_of, refused, ring_texts, some_books
from linegrow.books import book_of, letters
from linegrow.kinds import kind, row_kind
from linegrow.sums import length

NONE = ("", ())
GOLD = ("a", (("a", "ab"), ("b", "a")))
DYING = book_of("a", [("a", "bcb"), ("b", "c"), ("c", ""), ("d", "a"), ("e", "cccccc")])
# Powers 0, 1, 2, 3 by letters that have themselves in their words.
STEPS = book_of("d", [("a", "a"), ("b", "ba"), ("c", "cb"), ("d", "dc"), ("x", ""), ("y", "xcx"), ("z", "yd")])
# Rings of 2, 3 and 1 letters: the ring ab leads to cde by b, and to h.
RINGS = book_of("a", [("a", "b"), ("b", "ace"), ("c", "d"), ("d", "e"), ("e", "cxx"), ("h", "hc"), ("x", ""), ("k", "ah")])
# Two rings beside each other, none behind the other: of 2 and of 4 letters.
SIDES = book_of("pu", [("a", "b"), ("b", "a"), ("c", "d"), ("d", "e"), ("e", "f"), ("f", "c"), ("p", "ac"), ("u", "a")])
DOUBLES = book_of("a", [("a", "bb"), ("b", "c"), ("c", "a"), ("d", "da"), ("e", "f"), ("f", ""), ("g", "gf")])
BOOKS = [STEPS, RINGS, SIDES, DYING, DOUBLES, GOLD]
BOOKS = BOOKS + some_books(100, 21) + some_books(100, 22, 2) + some_books(40, 23, 1) + layered_books(100, 24)
LAST = 300


def lengths(book, many):
    """Lengths at the first `many` ages, by an own walk over counts."""
    words = dict(book[1])
    worths = [dict.fromkeys(words, 1)]
    while len(worths) < many:
        worths.append({letter: sum(worths[-1][sign] for sign in text) for letter, text in book[1]})
    return [sum(each[sign] for sign in book[0]) for each in worths]


def differences(numbers, by, times):
    for step in range(times):
        numbers = [later - sooner for sooner, later in zip(numbers, numbers[by:])]
    return numbers


def twice(book, letter):
    """Whether some letter that this one reaches stands twice in its own row at an age up to 16."""
    for goal in later_letters(book)[letter] | {letter}:
        worths = {each: int(each == goal) for each in letters(book)}
        for age in range(16):
            worths = {each: sum(worths[sign] for sign in text) for each, text in book[1]}
            if worths[goal] > 1:
                return True
    return False


def held(case, book, told):
    """The told kind held against the lengths of the book's row."""
    size = len(book[1])
    sizes = lengths(book, LAST + 1)
    case.assertIs(type(told), tuple)
    if told[0] == "dies":
        case.assertEqual(len(told), 2)
        case.assertEqual(sizes.index(0), told[1])
        case.assertTrue(all(each == 0 for each in sizes[told[1]:]))
    elif told[0] == "doubles":
        case.assertEqual(told, ("doubles",))
        case.assertTrue(any(twice(book, letter) for letter in book[0]))
        case.assertGreater(sizes[LAST], 2 ** 17)
    else:
        name, power, turn = told
        case.assertEqual(name, "powers")
        case.assertFalse(any(twice(book, letter) for letter in book[0]))
        case.assertTrue(all(each == 0 for each in differences(sizes, turn, power + 1)[size:]))
        case.assertTrue(all(each > 0 for each in differences(sizes, turn, power)[size:]))
        come = set(book[0]).union(*[later_letters(book)[letter] for letter in book[0]])
        case.assertEqual(turn, math.lcm(*[len(ring) for ring in ring_texts(book) if ring[0] in come]))


class TestKind(unittest.TestCase):
    def test_letters_that_die(self):
        told = [("dies", 3), ("dies", 2), ("dies", 1), ("dies", 4), ("dies", 2)]
        self.assertEqual([kind(DYING, letter) for letter in "abcde"], told)
        self.assertEqual(kind(STEPS, "x"), ("dies", 1))
        chain = book_of("", list(zip("abcdefg", "bcdefgh")) + [("h", "")])
        self.assertEqual([kind(chain, letter) for letter in "ah"], [("dies", 8), ("dies", 1)])

    def test_powers(self):
        told = [("powers", power, 1) for power in (0, 1, 2, 3, 2, 3)]
        self.assertEqual([kind(STEPS, letter) for letter in "abcdyz"], told)

    def test_rings_of_unlike_sizes(self):
        self.assertEqual(kind(RINGS, "a"), ("powers", 1, 6))
        self.assertEqual(kind(RINGS, "b"), ("powers", 1, 6))
        self.assertEqual(kind(RINGS, "c"), ("powers", 0, 3))
        self.assertEqual(kind(RINGS, "h"), ("powers", 1, 3))
        self.assertEqual(kind(RINGS, "k"), ("powers", 1, 6))

    def test_rings_beside_each_other_are_no_power(self):
        self.assertEqual(kind(SIDES, "p"), ("powers", 0, 4))
        self.assertEqual(kind(SIDES, "u"), ("powers", 0, 2))
        self.assertEqual(kind(SIDES, "c"), ("powers", 0, 4))

    def test_letters_that_double(self):
        for letter in "abcd":
            self.assertEqual(kind(DOUBLES, letter), ("doubles",))
        self.assertEqual(kind(DOUBLES, "e"), ("dies", 2))
        self.assertEqual(kind(DOUBLES, "g"), ("powers", 0, 1))
        self.assertEqual([kind(GOLD, letter) for letter in "ab"], [("doubles",)] * 2)
        self.assertEqual(kind(("", (("a", "aa"),)), "a"), ("doubles",))

    def test_the_greatest_power_and_turn(self):
        rules = [("a", "a")] + [(after, after + sign) for sign, after in zip("abcdefg", "bcdefgh")]
        self.assertEqual(kind(book_of("", rules), "h"), ("powers", 7, 1))
        rules = [("a", "b"), ("b", "a"), ("c", "d"), ("d", "e"), ("e", "ca"), ("f", "fc")]
        self.assertEqual(kind(book_of("", rules), "f"), ("powers", 2, 6))
        rules = [("a", "b"), ("b", "c"), ("c", "a"), ("d", "e"), ("e", "f"), ("f", "g"), ("g", "h"), ("h", "da")]
        self.assertEqual(kind(book_of("", rules), "g"), ("powers", 1, 15))

    def test_first_plays_no_part(self):
        self.assertEqual(kind(("", STEPS[1]), "d"), kind(STEPS, "d"))

    def test_held_against_lengths(self):
        for book in BOOKS:
            for letter in letters(book):
                held(self, (letter, book[1]), kind(book, letter))

    def test_held_against_the_programs_own_lengths(self):
        book = ("a", RINGS[1])
        sizes = [length(book, age) for age in range(LAST + 1)]
        self.assertTrue(all(each == 0 for each in differences(sizes, 6, 2)[8:]))
        self.assertTrue(all(each > 0 for each in differences(sizes, 6, 1)[8:]))

    def test_no_letter(self):
        for book in [NONE, GOLD, STEPS]:
            for thing in no_letters_of(letters(book)):
                refused(self, "NoLetter", kind, book, thing)


class TestRowKind(unittest.TestCase):
    def test_an_empty_first_row(self):
        self.assertEqual(row_kind(NONE), ("dies", 0))
        for book in BOOKS:
            self.assertEqual(row_kind(("", book[1])), ("dies", 0))

    def test_letters_of_unlike_kinds(self):
        self.assertEqual(row_kind(("cbd", DYING[1])), ("dies", 4))
        self.assertEqual(row_kind(("cb", DYING[1])), ("dies", 2))
        self.assertEqual(row_kind(("xbx", STEPS[1])), ("powers", 1, 1))
        self.assertEqual(row_kind(("abca", STEPS[1])), ("powers", 2, 1))
        self.assertEqual(row_kind(("xa", STEPS[1])), ("powers", 0, 1))
        self.assertEqual(row_kind(("eg", DOUBLES[1])), ("powers", 0, 1))
        self.assertEqual(row_kind(("ega", DOUBLES[1])), ("doubles",))
        self.assertEqual(row_kind(("e", DOUBLES[1])), ("dies", 2))

    def test_the_multiple_goes_over_all_rings(self):
        # The letter of the greatest power reaches a ring of one letter alone.
        book = book_of("vc", [("u", "u"), ("v", "vu"), ("a", "b"), ("b", "a"), ("c", "d"), ("d", "e"), ("e", "c")])
        self.assertEqual(kind(book, "v"), ("powers", 1, 1))
        self.assertEqual(row_kind(book), ("powers", 1, 3))
        self.assertEqual(row_kind(("vca", book[1])), ("powers", 1, 6))
        self.assertEqual(row_kind(("ac", book[1])), ("powers", 0, 6))

    def test_held_against_lengths(self):
        for book in BOOKS:
            if book[0]:
                held(self, book, row_kind(book))

    def test_one_letter_alone_is_as_the_letter(self):
        for book in BOOKS[:40]:
            for letter in letters(book):
                self.assertEqual(row_kind((letter, book[1])), kind(book, letter))


if __name__ == "__main__":
    unittest.main()
