import itertools
import random
import unittest

from helpers import no_letters_of, odd_things, refused, some_books, written
from linegrow.books import book_of, is_book, letters
from linegrow.joined import apart, classes, shrunk

NONE = ("", ())
GOLD = ("a", (("a", "ab"), ("b", "a")))
# Two lines of letters, unlike at their ends alone: d and h.
LINES = book_of("ae", list(zip("abcdefgh", ["b", "c", "d", "", "f", "g", "h", ""])))
# a and b part by the places 1 or 2, c and d by none; x is beside them.
PLACES = book_of("ab", [("a", "xcc"), ("b", "xdd"), ("c", "x"), ("d", ""), ("x", "")])
SAME = book_of("abcd", [("a", "cd"), ("b", "dc"), ("c", "ab"), ("d", "ba")])


def grouped(book, chance):
    """The letters of a book in some groups."""
    told = [[] for step in range(chance.randint(1, 4))]
    for letter in letters(book):
        chance.choice(told).append(letter)
    told = ["".join(chance.sample(group, len(group))) for group in told if group]
    chance.shuffle(told)
    return told


def some_groupings(many, seed):
    chance = random.Random(seed)
    books = some_books(many, seed, 2) + some_books(many, seed + 1, 1) + some_books(many, seed + 2, 3, 4)
    return [(book, grouped(book, chance)) for book in books]


CASES = some_groupings(70, 61)


def unlike(book, groups, one, other):
    home = {letter: group for group in groups for letter in group}
    return home[one] != home[other] or len(dict(book[1])[one]) != len(dict(book[1])[other])


def led(book, one, other, places):
    """The two letters to which places lead, or None."""
    for place in places:
        words = [dict(book[1])[one], dict(book[1])[other]]
        if any(place >= len(text) for text in words):
            return None
        one, other = words[0][place], words[1][place]
    return one, other


def plain_apart(book, groups, one, other, most=4):
    """By trying all places, the fewest first, and among as many by their order; None where none up to most does it."""
    for many in range(most + 1):
        for places in itertools.product(range(3), repeat=many):
            pair = led(book, one, other, places)
            if pair and unlike(book, groups, *pair):
                return list(places)
    return None


def plain_classes(book, groups):
    """By splitting again and again."""
    words = dict(book[1])
    home = {letter: (number,) for number, group in enumerate(groups) for letter in group}
    for step in range(len(words) + 1):
        home = {letter: (home[letter], len(text), tuple(home[sign] for sign in text)) for letter, text in book[1]}
        names = {mark: number for number, mark in enumerate(sorted(set(map(repr, home.values()))))}
        home = {letter: names[repr(mark)] for letter, mark in home.items()}
    told = {}
    for letter in letters(book):
        told[home[letter]] = told.get(home[letter], "") + letter
    return sorted(told.values())


class TestClasses(unittest.TestCase):
    def test_by_one_group(self):
        self.assertEqual(classes(SAME, ["abcd"]), ["abcd"])
        self.assertEqual(classes(GOLD, ["ab"]), ["a", "b"])
        self.assertEqual(classes(LINES, ["abcdefgh"]), ["ae", "bf", "cg", "dh"])
        self.assertEqual(classes(PLACES, ["abcdx"]), ["a", "b", "c", "dx"])

    def test_by_each_letter_alone(self):
        for book, groups in CASES:
            self.assertEqual(classes(book, list(letters(book))), list(letters(book)))
            self.assertEqual(classes(book, list(letters(book))[::-1]), list(letters(book)))

    def test_by_groups_between(self):
        self.assertEqual(classes(SAME, ["ab", "cd"]), ["ab", "cd"])
        self.assertEqual(classes(SAME, ["dc", "ba"]), ["ab", "cd"])
        self.assertEqual(classes(SAME, ["ac", "bd"]), ["ac", "bd"])
        self.assertEqual(classes(SAME, ["a", "bcd"]), ["a", "b", "c", "d"])
        self.assertEqual(classes(LINES, ["abcdefg", "h"]), list("abcdefgh"))
        self.assertEqual(classes(LINES, ["efghad", "cb"]), ["a", "b", "c", "dh", "e", "f", "g"])

    def test_rising_by_their_first_letters(self):
        book = book_of("", [(letter, "") for letter in "abyz"])
        self.assertEqual(classes(book, ["yb", "za"]), ["az", "by"])

    def test_against_plain_splitting(self):
        for book, groups in CASES:
            self.assertEqual(classes(book, groups), plain_classes(book, groups))

    def test_a_book_of_no_letters(self):
        self.assertEqual(classes(NONE, []), [])
        self.assertEqual(shrunk(NONE, []), NONE)

    def test_told_lists_are_the_askers_own(self):
        groups = ["ab", "cd"]
        told = classes(SAME, groups)
        told[0] = "z"
        told.clear()
        self.assertEqual(groups, ["ab", "cd"])
        self.assertEqual(classes(SAME, groups), ["ab", "cd"])
        groups[0] = "zz"
        self.assertEqual(classes(SAME, ["ab", "cd"]), ["ab", "cd"])


class TestApart(unittest.TestCase):
    def test_letters_that_do_alike(self):
        for one in "abcd":
            for other in "abcd":
                self.assertIsNone(apart(SAME, ["abcd"], one, other))
        self.assertIsNone(apart(GOLD, ["a", "b"], "a", "a"))

    def test_none_needed(self):
        self.assertEqual(apart(SAME, ["ab", "cd"], "a", "c"), [])
        self.assertEqual(apart(GOLD, ["ab"], "a", "b"), [])
        self.assertEqual(apart(PLACES, ["abcdx"], "c", "d"), [])

    def test_several_places(self):
        self.assertEqual(apart(LINES, ["abcdefg", "h"], "a", "e"), [0, 0, 0])
        self.assertEqual(apart(LINES, ["abcdefg", "h"], "e", "a"), [0, 0, 0])
        self.assertEqual(apart(LINES, ["abcdefg", "h"], "b", "f"), [0, 0])
        self.assertIsNone(apart(LINES, ["abcdefgh"], "a", "e"))

    def test_the_least_place_of_several(self):
        self.assertEqual(apart(PLACES, ["abcdx"], "a", "b"), [1])
        # By place 0 three places are needed, by place 1 two: the fewest go first.
        words = ["ce", "df", "e", "f", "gg", "hh", "g", ""]
        book = book_of("", list(zip("abcdefgh", words)))
        self.assertEqual(apart(book, ["abcdefgh"], "a", "b"), [1, 0])
        self.assertEqual(apart(book, ["abcdefgh"], "c", "d"), [0, 0])

    def test_of_as_many_the_one_with_the_least_place_ahead(self):
        # [0, 1] and [1, 0] both part them.
        words = ["cd", "ef", "gg", "gg", "gh", "hg", "g", ""]
        book = book_of("", list(zip("abcdefgh", words)))
        self.assertEqual(apart(book, ["abcdefgh"], "a", "b"), [0, 1])
        self.assertEqual(apart(book, ["abcdefgh"], "d", "f"), [0])

    def test_against_plain_trying(self):
        for book, groups in CASES[:120]:
            for one in letters(book):
                for other in letters(book):
                    told = apart(book, groups, one, other)
                    alike = any(one in each and other in each for each in plain_classes(book, groups))
                    self.assertEqual(told is None, alike)
                    plain = plain_apart(book, groups, one, other)
                    if plain is not None or told is None:
                        self.assertEqual(told, plain)
                    else:
                        self.assertGreater(len(told), 4)
                        self.assertTrue(unlike(book, groups, *led(book, one, other, told)))

    def test_told_lists_are_the_askers_own(self):
        told = apart(LINES, ["abcdefg", "h"], "a", "e")
        told.append(9)
        self.assertEqual(apart(LINES, ["abcdefg", "h"], "a", "e"), [0, 0, 0])
        apart(GOLD, ["ab"], "a", "b").append(1)
        self.assertEqual(apart(GOLD, ["ab"], "a", "b"), [])

    def test_no_letter(self):
        for thing in no_letters_of("ab"):
            refused(self, "NoLetter", apart, GOLD, ["ab"], thing, "a")
            refused(self, "NoLetter", apart, GOLD, ["ab"], "a", thing)
            refused(self, "NoLetter", apart, GOLD, ["ab"], thing, thing)
            refused(self, "NoLetter", apart, NONE, [], thing, thing)


class TestShrunk(unittest.TestCase):
    def test_known_ones(self):
        self.assertEqual(shrunk(SAME, ["abcd"]), ("aaaa", (("a", "aa"),)))
        self.assertEqual(shrunk(SAME, ["cd", "ab"]), ("aacc", (("a", "cc"), ("c", "aa"))))
        self.assertEqual(shrunk(GOLD, ["ab"]), GOLD)
        told = (("a", "b"), ("b", "c"), ("c", "d"), ("d", ""))
        self.assertEqual(shrunk(LINES, ["abcdefgh"]), ("aa", told))

    def test_against_rows_written_out(self):
        for book, groups in CASES:
            told = shrunk(book, groups)
            self.assertIs(is_book(told), True)
            first = {letter: each[0] for each in plain_classes(book, groups) for letter in each}
            self.assertEqual(letters(told), "".join(sorted(set(first.values()))))
            for age in range(6):
                text = written(*book, age)
                self.assertEqual(written(*told, age), "".join(first[sign] for sign in text))


class TestNoGroups(unittest.TestCase):
    def wrong(self):
        return odd_things() + [
            [], "ab", "", ("ab",), ("a", "b"), ["a"], ["b"], ["ab", ""], ["", "ab"], ["a", "b", ""], ["ab", "a"],
            ["aab"], ["ab", "ab"], ["a", "b", "c"], ["abc"], ["c"], ["a", "c"], [["a"], ["b"]], [("a", "b")], ["a", None],
            ["a", ["b"]], ["a b"], ["ab "], ["aB"], ["a", "B"], [1, 2], 0, 1, {"a": "b"}, [["ab"]], ["a", "b", 3], ["ab"] * 2,
            ["a", "b"] + [""] * 498, ["ab\n"], ["a", "\u00e9"],
        ]

    def test_of_whatever_kind(self):
        for thing in self.wrong():
            refused(self, "NoGroups", classes, GOLD, thing)
            refused(self, "NoGroups", shrunk, GOLD, thing)
            refused(self, "NoGroups", apart, GOLD, thing, "a", "b")

    def test_of_a_book_of_no_letters(self):
        for thing in odd_things() + [(), "", ["a"], [""], 0]:
            refused(self, "NoGroups", classes, NONE, thing)
            refused(self, "NoGroups", shrunk, NONE, thing)

    def test_ahead_of_no_letter(self):
        for thing in [None, [], ["a"], ("ab",), ["ab", ""]]:
            refused(self, "NoGroups", apart, GOLD, thing, "z", "z")
            refused(self, "NoGroups", apart, GOLD, thing, None, "a")
        refused(self, "NoGroups", apart, NONE, ["a"], "a", "a")

    def test_right_ones(self):
        for groups in [["ab"], ["ba"], ["a", "b"], ["b", "a"]]:
            self.assertEqual(classes(GOLD, groups), ["a", "b"])

    def test_handed_groups_stay(self):
        groups = ["ba", "dc"]
        classes(SAME, groups)
        apart(SAME, groups, "a", "b")
        shrunk(SAME, groups)
        self.assertEqual(groups, ["ba", "dc"])


if __name__ == "__main__":
    unittest.main()
