import random
import time
import unittest

from helpers import layered_books, no_numbers, odd_things, refused, some_books, written
from linegrow.books import book_of, letters
from linegrow.changed import mirrored, thinned
from linegrow.kinds import kind
from linegrow.places import stretch
from linegrow.stretches import comes, stretches
from linegrow.sums import length, letter_lengths

NONE = ("", ())
GOLD = ("a", (("a", "ab"), ("b", "a")))
MORSE = ("a", (("a", "ab"), ("b", "ba")))
# Two rounds of single letters, of three and of five: each pair comes, the last one at age 14.
ROUNDS = book_of("ad", [("a", "b"), ("b", "c"), ("c", "a"), ("d", "e"), ("e", "f"), ("f", "g"), ("g", "h"), ("h", "d")])
# Between the letters that last stand others which die at once, or behind one or two ages.
GAPS = book_of("xdyc", [("x", "xdy"), ("y", "cx"), ("d", "c"), ("c", "ee"), ("e", "")])

# Of the thinned book, of the book: how many unlike stretches of 1 to many letters their rows have.
EDGES = [
    (("gbfbda", (("a", "efg"), ("b", "d"), ("c", "hfd"), ("d", "b"), ("e", "hgc"), ("f", "ad"), ("g", "ah"),
                 ("h", "cdh"))), 3, 100, 100),
    (("bcbddea", (("a", "aca"), ("b", "ad"), ("c", "bdc"), ("d", "db"), ("e", "e"))), 4, 101, 101),
    (("fedabdabfba", (("a", ""), ("b", "af"), ("c", "b"), ("d", "afb"), ("e", "bd"), ("f", "cca"))), 4, 100, 97),
    (("bbgafdbgcd", (("a", ""), ("b", "db"), ("c", "ca"), ("d", "cfd"), ("e", "fgg"), ("f", "da"), ("g", "cg"),
                     ("h", "be"))), 4, 101, 100),
    (("afea", (("a", ""), ("b", "a"), ("c", "gf"), ("d", "d"), ("e", "dga"), ("f", "cc"), ("g", "fga"))), 4, 86, 100),
    (("cfecffbebbfd", (("a", ""), ("b", "c"), ("c", "fe"), ("d", "daf"), ("e", "e"), ("f", "aef"))), 4, 78, 101),
]


def no_texts():
    """What is no text of 1 to 4 letters."""
    return odd_things() + [
        "", "abcde", "aaaaa", "A", "aB", "a b", "a.", "1", "a1", "-", " ", "a ", "\n", "\u00e9", "\u00aa", "ab\u00b5",
        0, 1, -1, 10 ** 299, [], ["a"], ["a", "b"], (), ("a",), ("a", "b"), bytearray(b"a"),
    ]


def parts(text, many):
    return {text[start:start + size] for size in range(1, many + 1) for start in range(len(text) - size + 1)}


def plain_stretches(book, many, most=1500):
    """From rows written out; beside it the last age looked at, and whether what comes later was there already."""
    told = {}
    seen = set()
    text = book[0]
    age = 0
    while True:
        for start in range(len(text) - many + 1):
            told.setdefault(text[start:start + many], (age, start))
        seen.add(text)
        later = written(text, book[1], 1)
        if later in seen:
            return told, age, True
        if len(later) > most or age == 60:
            return told, age, False
        text = later
        age += 1


def last_death(book):
    return max([kind(book, letter)[1] for letter in letters(book) if kind(book, letter)[0] == "dies"] + [0])


def closed(book, many):
    """All stretches of 1 to many letters of a book in which none dies: until turning them brings no other one."""
    told = set()
    fresh = parts(book[0], many)
    while fresh and len(told) <= 100:
        told |= fresh
        fresh = {part for text in fresh for part in parts(written(text, book[1], 1), many)} - told
    return told


def numbers(book, many):
    """How many unlike stretches the thinned book and the book have (more than a hundred as about that many)."""
    last = last_death(book)
    thin = closed(thinned(book), many)
    whole = {part for age in range(last) for part in parts(written(*book, age), many)}
    for text in thin:
        whole |= parts(written(text, book[1], last), many)
    return len(thin), len(whole)


def too_long(book):
    return any(max(letter_lengths(book, age), default=0) > 40 for age in range(last_death(book) + 1))


def dropping_books(many, seed):
    """Books in which words mostly go on to letters further on, so that much dies, some of it only behind many ages."""
    chance = random.Random(seed)
    told = []
    for step in range(many):
        signs = "abcdefg"[:chance.randint(3, 7)]
        rules = []
        for place, sign in enumerate(signs):
            text = "".join(chance.choices(signs[place + 1:], k=chance.randint(0, 5))) if signs[place + 1:] else ""
            rules.append((sign, text + sign * (chance.random() < 0.3)))
        told.append(book_of("".join(chance.choices(signs, k=chance.randint(1, 3))), rules))
    return told


def each_book():
    return (
        some_books(50, 301, 2, 4) + some_books(50, 302, 3, 3) + layered_books(60, 303) + some_books(40, 304, 1, 8)
        + some_books(60, 305, 6, 7) + dropping_books(120, 306)
        + [NONE, GOLD, MORSE, ROUNDS, GAPS] + [edge[0] for edge in EDGES]
    )


class TestWrittenOut(unittest.TestCase):
    def test_against_rows_written_out(self):
        seen = {"TooLong": 0, "TooMany": 0, "told": 0, "dying": 0, "whole": 0}
        for book in each_book():
            for many in range(1, 5):
                if too_long(book):
                    seen["TooLong"] += 1
                    refused(self, "TooLong", stretches, book, many)
                elif max(numbers(book, many)) > 100:
                    seen["TooMany"] += 1
                    refused(self, "TooMany", stretches, book, many)
                else:
                    seen["told"] += 1
                    seen["dying"] += last_death(book) > 0
                    seen["whole"] += self.held(book, many)
        self.assertGreater(min(seen.values()), 10, seen)

    def held(self, book, many):
        told = stretches(book, many)
        self.assertIs(type(told), list)
        self.assertTrue(all(type(each) is tuple and len(each) == 3 for each in told))
        texts = [text for text, age, place in told]
        self.assertEqual(texts, sorted(set(texts)))
        plain, last, whole = plain_stretches(book, many)
        early = {text: (age, place) for text, age, place in told if age <= last}
        self.assertEqual(early, plain)
        if whole:
            self.assertEqual(len(early), len(told))
        for text, age, place in told:
            self.assertEqual(stretch(book, age, place, many), text)
        return whole

    def test_comes_as_the_stretches_tell(self):
        for book in each_book()[::3]:
            for many in range(1, 5):
                if too_long(book) or max(numbers(book, many)) > 100:
                    name = "TooLong" if too_long(book) else "TooMany"
                    refused(self, name, comes, book, "z" * many)
                    refused(self, name, comes, book, (letters(book) * 4)[:many])
                else:
                    for text, age, place in stretches(book, many):
                        told = comes(book, text)
                        self.assertEqual(told, (age, place))
                        self.assertIs(type(told), tuple)
                    never = set(parts(letters(book) * 2, many)) - {each[0] for each in stretches(book, many)}
                    for text in sorted(never):
                        if len(text) == many:
                            self.assertIsNone(comes(book, text))


class TestKnown(unittest.TestCase):
    def test_small_ones(self):
        self.assertEqual(stretches(GOLD, 1), [("a", 0, 0), ("b", 1, 1)])
        self.assertEqual(stretches(GOLD, 2), [("aa", 3, 2), ("ab", 1, 0), ("ba", 2, 1)])
        self.assertEqual([each[0] for each in stretches(GOLD, 4)], ["aaba", "abaa", "abab", "baab", "baba"])
        self.assertEqual([each[0] for each in stretches(MORSE, 3)], ["aab", "aba", "abb", "baa", "bab", "bba"])
        self.assertIsNone(comes(GOLD, "bb"))
        self.assertIsNone(comes(MORSE, "aaa"))
        self.assertEqual(comes(MORSE, "baab"), (3, 4))

    def test_no_letters_and_an_empty_first_row(self):
        for many in range(1, 5):
            self.assertEqual(stretches(NONE, many), [])
            self.assertEqual(stretches(("", GOLD[1]), many), [])
            self.assertIsNone(comes(NONE, "a" * many))
            self.assertIsNone(comes(("", GOLD[1]), "a" * many))

    def test_letters_that_first_does_not_reach(self):
        book = book_of("a", [("a", "ab"), ("b", "a"), ("c", "cca"), ("d", "e"), ("e", "")])
        for many in range(1, 5):
            self.assertEqual(stretches(book, many), stretches(GOLD, many))
        self.assertIsNone(comes(book, "c"))
        self.assertIsNone(comes(book, "de"))

    def test_letters_of_no_rule(self):
        for text in ["z", "az", "za", "abz", "zzzz", "abca"]:
            self.assertIsNone(comes(GOLD, text))

    def test_rows_shorter_than_the_stretch(self):
        self.assertEqual(stretches(("ab", (("a", "b"), ("b", "a"))), 3), [])
        self.assertEqual(stretches(("ab", (("a", "b"), ("b", "a"))), 2), [("ab", 0, 0), ("ba", 1, 0)])
        self.assertEqual(stretches(("aab", (("a", ""), ("b", "b"))), 3), [("aab", 0, 0)])

    def test_only_the_least_age_and_place(self):
        # ab stands in the first row at 4 and at 6, and at later ages further ahead.
        book = ("bbbbabab", (("a", "a"), ("b", "")))
        self.assertEqual(stretches(book, 2), [("aa", 1, 0), ("ab", 0, 4), ("ba", 0, 3), ("bb", 0, 0)])


class TestLate(unittest.TestCase):
    def test_rounds_of_single_letters(self):
        told = stretches(ROUNDS, 2)
        self.assertEqual(len(told), 15)
        self.assertEqual(sorted(age for text, age, place in told), list(range(15)))
        self.assertEqual(comes(ROUNDS, "ch"), (14, 0))
        self.assertEqual(comes(ROUNDS, "ad"), (0, 0))
        self.assertIsNone(comes(ROUNDS, "da"))

    def test_late_and_far_inside(self):
        book = book_of("zad", [("z", "zzzzzz"), ("a", "b"), ("b", "c"), ("c", "a"), ("d", "e"), ("e", "f"), ("f", "d")])
        self.assertEqual(comes(book, "af"), None)
        book = book_of("zae", [("z", "zzzzzz"), ("a", "b"), ("b", "c"), ("c", "a"), ("e", "f"), ("f", "g"), ("g", "h"),
                               ("h", "e")])
        told = dict((text, (age, place)) for text, age, place in stretches(book, 4) if age > 0)
        self.assertEqual(told["zzch"], (11, 6 ** 11 - 2))
        self.assertEqual(told["zzzc"], (2, 33))
        self.assertEqual(comes(book, "ch"), (11, 6 ** 11))

    def test_the_age_is_that_of_the_book_though_much_dies(self):
        # z doubles, and drops what is dead two ages on; the rounds go on behind it.
        book = book_of("zae", [("z", "zxz"), ("x", "y"), ("y", ""), ("a", "b"), ("b", "a"), ("e", "f"), ("f", "g"),
                               ("g", "e")])
        for many in range(1, 5):
            plain = plain_stretches(book, many)[0]
            self.assertEqual({text: (age, place) for text, age, place in stretches(book, many)}, plain)
        self.assertEqual(comes(book, "bg"), (5, length(book, 5) - 2))

    def test_letters_die_between_the_letters_of_a_stretch(self):
        for many in range(1, 5):
            plain = plain_stretches(GAPS, many)[0]
            self.assertEqual({text: (age, place) for text, age, place in stretches(GAPS, many)}, plain)
        self.assertEqual(comes(GAPS, "cc"), (1, 3))
        self.assertEqual(comes(mirrored(GAPS), "cydx"), (0, 0))

    def test_all_is_told_soon(self):
        begin = time.perf_counter()
        for book, many, thin, whole in EDGES:
            for step in range(3):
                if max(thin, whole) <= 100:
                    stretches(book, many)
                else:
                    refused(self, "TooMany", stretches, book, many)
        # All letters and all pairs come soon, so this is refused without going on for long.
        wild = book_of("abcdefghabcd", [(sign, "hgfedc") for sign in "abcdefgh"])
        stretches(wild, 2)
        self.assertLess(time.perf_counter() - begin, 20)


class TestRefused(unittest.TestCase):
    def test_no_numbers(self):
        long = book_of("a", [("a", "bbbbbb"), ("b", "cccccc"), ("c", "dd"), ("d", "")])
        for book in [GOLD, NONE, long, EDGES[1][0]]:
            for thing in no_numbers(1, 4):
                refused(self, "NoNumber", stretches, book, thing)

    def test_no_words(self):
        long = book_of("a", [("a", "bbbbbb"), ("b", "cccccc"), ("c", "dd"), ("d", "")])
        for book in [GOLD, NONE, long, EDGES[1][0]]:
            for thing in no_texts():
                refused(self, "NoWord", comes, book, thing)

    def test_too_long_just_forty_and_one_more(self):
        # a dies; forty, and one more, come of it at age 3.
        rules = [("b", "cccc"), ("c", "dd"), ("d", ""), ("e", "f"), ("f", "g"), ("g", "")]
        just = rules + [("a", "bbbbb")]
        more = rules + [("a", "bbbbbe")]
        for first in ["a", "g", ""]:
            self.assertEqual([each[0] for each in stretches(book_of(first, just), 1)], sorted(
                {"a": "abcd", "g": "g", "": ""}[first]))
            for many in range(1, 5):
                refused(self, "TooLong", stretches, book_of(first, more), many)
                refused(self, "TooLong", comes, book_of(first, more), "a" * many)

    def test_too_long_at_the_age_at_which_the_last_one_dies(self):
        deaths = [("d", "e"), ("e", "f"), ("f", "")]
        just = book_of("ad", deaths + [("a", "aaab"), ("b", "b")])
        self.assertEqual(last_death(just), 3)
        self.assertEqual(stretches(just, 1), [("a", 0, 0), ("b", 1, 3), ("d", 0, 1), ("e", 1, 4), ("f", 2, 13)])
        refused(self, "TooLong", stretches, book_of("ad", deaths + [("a", "aabbb"), ("b", "a")]), 1)
        refused(self, "TooLong", stretches, book_of("", deaths + [("a", "aabbb"), ("b", "a")]), 1)
        # One age later it would be too long, but by then nothing dies any more.
        self.assertEqual(len(stretches(book_of("ad", deaths[1:] + [("d", ""), ("a", "aabbb"), ("b", "a")]), 1)), 3)
        self.assertEqual(stretches(("a", (("a", "aaaaaa"),)), 4), [("aaaa", 1, 0)])

    def test_too_many_just_a_hundred_and_one_more(self):
        for book, many, thin, whole in EDGES:
            self.assertEqual(numbers(book, many), (thin, whole))
            if max(thin, whole) == 100:
                told = sum(len(stretches(book, size)) for size in range(1, many + 1))
                self.assertEqual(told, whole)
            else:
                refused(self, "TooMany", stretches, book, many)
                refused(self, "TooMany", comes, book, "abcd"[:many])
                # Of fewer letters there are fewer stretches.
                stretches(book, many - 1)
                comes(book, "abcd"[:many - 1])

    def test_too_long_goes_ahead_of_too_many(self):
        rules = [("a", "abcdee"), ("b", "edcbaa"), ("c", "acebda"), ("d", "bdaace"), ("e", "daebdc")]
        refused(self, "TooMany", stretches, book_of("a", rules), 4)
        refused(self, "TooMany", stretches, book_of("a", rules + [("f", "g"), ("g", "")]), 4)
        deep = book_of("a", rules + [("f", "g"), ("g", "h"), ("h", "")])
        refused(self, "TooLong", stretches, deep, 4)
        refused(self, "TooLong", comes, deep, "abcd")

    def test_told_lists_are_the_askers_own(self):
        told = stretches(GOLD, 2)
        told.clear()
        self.assertEqual(len(stretches(GOLD, 2)), 3)


if __name__ == "__main__":
    unittest.main()
