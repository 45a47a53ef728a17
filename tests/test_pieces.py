import random
import re
import unittest

from helpers import Thorny, odd_things, refused, some_books, written
from linegrow.books import book_of, letters
from linegrow.changed import called, mirrored
from linegrow.pieces import rows_alike, shows_rows
from linegrow.sums import length

NONE = ("", ())
GOLD = ("a", (("a", "ab"), ("b", "a")))
MORSE = ("a", (("a", "ab"), ("b", "ba")))
# The same rows by words that are cut at other places: ab becomes abab in both.
ONE = ("ab", (("a", "aba"), ("b", "b")))
OTHER = ("ab", (("a", "ab"), ("b", "ab")))
STILL = ("aab", (("a", "a"), ("b", "b")))


def related(chance, book):
    """A book much like the handed one: its first row or some words changed a little."""
    signs = letters(book)
    rules = []
    for letter, text in book[1]:
        if chance.random() < 0.2 and len(text) < 4:
            place = chance.randint(0, len(text))
            text = text[:place] + chance.choice(signs) + text[place:]
        elif chance.random() < 0.1:
            text = text[1:]
        elif chance.random() < 0.1:
            text = text[::-1]
        rules.append((letter, text))
    first = book[0]
    if chance.random() < 0.1:
        first = (first + chance.choice(signs))[-12:]
    return book_of(first, rules)


def some_pairs(many, seed):
    chance = random.Random(seed)
    told = []
    for book in some_books(many, seed, 2, 6) + some_books(many, seed + 1, 3, 3):
        told += [(book, related(chance, book)), (related(chance, book), book)]
    return told


def cut_text(chance, text, many):
    """A text as so many words one behind another, each of at most six letters."""
    while True:
        spots = sorted(chance.choices(range(len(text) + 1), k=many - 1))
        told = [text[start:end] for start, end in zip([0] + spots, spots + [len(text)])]
        if all(len(each) <= 6 for each in told):
            return told


def alike_pairs(many, seed):
    """Two books each whose rows are alike: texts of letters of their own become texts put together of these."""
    chance = random.Random(seed)
    told = []
    while len(told) < many:
        texts = [text for text in re.findall(r"\w+", chance.choice(["ab cd", "ab c", "abc d e", "ab cd ef", "abc"]))]
        ones, others = [], []
        for text in texts:
            grown = "".join(chance.choices(texts, k=chance.randint(0, 3)))
            if len(grown) > 5 * len(text):
                grown = ""
            ones += list(zip(text, cut_text(chance, grown, len(text))))
            others += list(zip(text, cut_text(chance, grown, len(text))))
        first = "".join(chance.choices(texts, k=chance.randint(0, 4)))
        told.append((book_of(first, ones), book_of(first, others), texts))
    return told


def put_together(text, parts):
    return re.fullmatch("(?:" + "|".join(parts) + ")*" if parts else "", text) is not None


def plain_shows(one, other, parts):
    both = set(letters(one)) & set(letters(other))
    if len(parts) > 30 or not all(1 <= len(part) <= 40 and set(part) <= both for part in parts):
        return False
    if one[0] != other[0] or not put_together(one[0], parts):
        return False
    turned = [(written(part, one[1], 1), written(part, other[1], 1)) for part in parts]
    return all(mine == yours and put_together(mine, parts) for mine, yours in turned)


def plain_pieces(one, other):
    """The pieces of plain cutting, or None where it doesn't end well."""
    if one[0] != other[0]:
        return None
    told = []
    texts = [one[0]]
    while texts:
        text = texts.pop(0)
        cuts = [end for end in range(1, len(text) + 1) if written(text[:end], one[1], 1) == written(text[:end], other[1], 1)]
        if text and cuts[-1:] != [len(text)]:
            return None
        for start, end in zip([0] + cuts, cuts):
            if text[start:end] not in told:
                told.append(text[start:end])
                texts.append(written(text[start:end], one[1], 1))
        if len(told) > 12 or any(len(each) > 12 for each in told):
            return None
    return told


def plain_age(one, other):
    """The least age up to 8 at which the rows are not alike, as long as they have at most 300 letters."""
    for age in range(9):
        if max(length(one, age), length(other, age)) > 300:
            return None
        if written(*one, age) != written(*other, age):
            return age
    return None


class TestShowsRows(unittest.TestCase):
    def test_known_ones(self):
        self.assertIs(shows_rows(GOLD, GOLD, ["a", "b"]), True)
        self.assertIs(shows_rows(ONE, OTHER, ["ab"]), True)
        self.assertIs(shows_rows(OTHER, ONE, ["ab"]), True)
        self.assertIs(shows_rows(GOLD, GOLD, ["a"]), False)
        self.assertIs(shows_rows(GOLD, GOLD, ["b"]), False)
        self.assertIs(shows_rows(GOLD, GOLD, []), False)
        self.assertIs(shows_rows(GOLD, GOLD, ["a", "ab"]), True)
        self.assertIs(shows_rows(GOLD, GOLD, ["a", "ab", "b"]), True)
        self.assertIs(shows_rows(GOLD, MORSE, ["a", "b"]), False)

    def test_in_whatever_order_and_more_than_once(self):
        self.assertIs(shows_rows(GOLD, GOLD, ["b", "a"]), True)
        self.assertIs(shows_rows(GOLD, GOLD, ["b", "a", "b", "b"]), True)
        self.assertIs(shows_rows(ONE, OTHER, ["ab", "ab"]), True)

    def test_each_piece_has_to_hold(self):
        self.assertIs(shows_rows(ONE, OTHER, ["ab", "a"]), False)
        self.assertIs(shows_rows(ONE, OTHER, ["b", "ab"]), False)
        self.assertIs(shows_rows(ONE, OTHER, ["ab", "abab"]), True)
        # Turned alike, but into what no pieces make.
        self.assertIs(shows_rows(("a", GOLD[1]), ("a", GOLD[1]), ["a"]), False)
        book = book_of("a", [("a", "a"), ("b", "c"), ("c", "c")])
        self.assertIs(shows_rows(book, book, ["a"]), True)
        self.assertIs(shows_rows(book, book, ["a", "b"]), False)

    def test_thirty_texts_and_one_more(self):
        self.assertIs(shows_rows(GOLD, GOLD, ["a"] * 15 + ["b"] * 15), True)
        self.assertIs(shows_rows(GOLD, GOLD, ["a"] * 16 + ["b"] * 15), False)
        self.assertIs(shows_rows(STILL, STILL, ["a" * many for many in range(1, 30)] + ["b"]), True)
        self.assertIs(shows_rows(STILL, STILL, ["a" * many for many in range(1, 31)] + ["b"]), False)

    def test_forty_letters_and_one_more(self):
        self.assertIs(shows_rows(STILL, STILL, ["a", "b", "ab" * 20]), True)
        self.assertIs(shows_rows(STILL, STILL, ["a", "b", "ab" * 20 + "a"]), False)
        full = ("a", (("a", "aaaaaa"),))
        self.assertIs(shows_rows(full, full, ["a" * 40, "a"]), True)
        self.assertIs(shows_rows(full, full, ["a" * 41, "a"]), False)
        self.assertIs(shows_rows(STILL, STILL, ["a", "b", ""]), False)

    def test_first_rows_that_are_unlike(self):
        self.assertIs(shows_rows(GOLD, ("b", GOLD[1]), ["a", "b"]), False)
        self.assertIs(shows_rows(("", GOLD[1]), GOLD, ["a", "b"]), False)
        self.assertIs(shows_rows(("aa", GOLD[1]), GOLD, ["a", "b"]), False)

    def test_a_letter_that_one_book_alone_has(self):
        more = book_of("a", GOLD[1] + (("c", "a"),))
        self.assertIs(shows_rows(GOLD, more, ["a", "b"]), True)
        self.assertIs(shows_rows(more, GOLD, ["a", "b", "c"]), False)
        self.assertIs(shows_rows(GOLD, more, ["a", "b", "c"]), False)
        self.assertIs(shows_rows(GOLD, more, ["a", "b", "ac"]), False)
        self.assertIs(shows_rows(more, more, ["a", "b", "c"]), True)
        self.assertIs(shows_rows(GOLD, GOLD, ["a", "b", "z"]), False)
        self.assertIs(shows_rows(GOLD, GOLD, ["a", "b", "A"]), False)
        self.assertIs(shows_rows(GOLD, called(GOLD, "xy"), ["a", "b"]), False)

    def test_put_together_in_one_way_alone(self):
        # Neither the longest nor the shortest piece goes on here: a and ab do.
        self.assertIs(shows_rows(STILL, STILL, ["aa", "a", "ab"]), True)
        self.assertIs(shows_rows(STILL, STILL, ["a", "aa", "ab"]), True)
        self.assertIs(shows_rows(STILL, STILL, ["aa", "ab"]), False)
        still = ("aaaaab", STILL[1])
        self.assertIs(shows_rows(still, still, ["aaaa", "aaa", "aab"]), True)
        self.assertIs(shows_rows(still, still, ["aaaa", "aaab"]), False)
        self.assertIs(shows_rows(still, still, ["a" * many for many in range(1, 30)]), False)

    def test_empty_rows(self):
        self.assertIs(shows_rows(NONE, NONE, []), True)
        self.assertIs(shows_rows(("", GOLD[1]), ("", MORSE[1]), []), True)
        self.assertIs(shows_rows(NONE, ("", MORSE[1]), []), True)
        self.assertIs(shows_rows(("", GOLD[1]), ("", MORSE[1]), ["a"]), False)
        dying = ("a", (("a", ""),))
        self.assertIs(shows_rows(dying, dying, ["a"]), True)
        self.assertIs(shows_rows(dying, dying, []), False)

    def test_things_of_other_kinds(self):
        for one, other in [(GOLD, GOLD), (NONE, NONE), (ONE, OTHER)]:
            for thing in odd_things() + ["", "a", "ab", (), ("a", "b"), ("ab",), 0, 7, -1, {"a": True, "b": True}]:
                self.assertIs(shows_rows(one, other, thing), False)
            for thing in odd_things() + [0, 7, -1, 10 ** 299, ["a"], ("a",), "", "A", "a b", "ab ", "\u00e9", b"a"]:
                self.assertIs(shows_rows(one, other, ["a", "b", "ab", thing]), False)
                self.assertIs(shows_rows(one, other, [thing]), False)
        self.assertIs(shows_rows(GOLD, GOLD, [Thorny()] * 500), False)

    def test_nothing_handed_in_is_changed(self):
        parts = ["b", "a", "b"]
        shows_rows(GOLD, GOLD, parts)
        self.assertEqual(parts, ["b", "a", "b"])

    def test_against_a_second_reading(self):
        chance = random.Random(401)
        seen = [0, 0]
        cases = [(one, other) for one, other, texts in alike_pairs(60, 402)] + some_pairs(20, 403)
        for one, other in cases:
            texts = letters(one)
            tried = [["".join(chance.choices(texts, k=chance.randint(1, 3))) for step in range(chance.randint(0, 5))]
                     for step in range(6)]
            told = plain_pieces(one, other)
            if told:
                tried += [told, told[1:], told[::-1], told + told[:1], told + [told[0] + told[-1]], told + [texts]]
            for parts in tried:
                shown = plain_shows(one, other, parts)
                self.assertIs(shows_rows(one, other, parts), shown)
                self.assertIs(shows_rows(other, one, parts), shown)
                seen[shown] += 1
        self.assertGreater(min(seen), 100, seen)

    def test_what_is_shown_holds_of_rows_written_out(self):
        shown = 0
        for one, other, texts in alike_pairs(80, 404):
            self.assertIs(shows_rows(one, other, texts), True)
            for age in range(8):
                if length(one, age) <= 2000:
                    self.assertEqual(written(*one, age), written(*other, age))
                    shown += 1
        self.assertGreater(shown, 100)


class TestRowsAlike(unittest.TestCase):
    def alike(self, one, other):
        told = rows_alike(one, other)
        self.assertIs(type(told), tuple)
        self.assertEqual(len(told), 2)
        self.assertEqual(told[0], "alike")
        self.assertIs(type(told[1]), list)
        self.assertEqual(told[1], sorted(set(told[1])))
        self.assertTrue(plain_shows(one, other, told[1]))
        self.assertIs(shows_rows(one, other, told[1]), True)
        return told[1]

    def test_one_book_twice(self):
        for book in some_books(80, 411, 6, 8) + [NONE, GOLD, MORSE, ("", GOLD[1])]:
            self.alike(book, book)
        self.assertEqual(rows_alike(NONE, NONE), ("alike", []))
        self.assertEqual(rows_alike(("", GOLD[1]), ("", MORSE[1])), ("alike", []))

    def test_words_cut_at_other_places(self):
        self.alike(ONE, OTHER)
        self.alike(OTHER, ONE)
        found = 0
        for one, other, texts in alike_pairs(200, 412):
            if plain_pieces(one, other) is not None:
                found += one != other
                self.alike(one, other)
                self.alike(other, one)
        self.assertGreater(found, 50)

    def test_plain_cutting_at_its_bounds(self):
        # Twelve letters of first are one piece, and turned it is itself again.
        signs = "abcdef"
        one = book_of("abcdefabcdef", [("a", "abcdef")] + [(sign, "") for sign in signs[1:]])
        other = book_of("abcdefabcdef", [(sign, "") for sign in signs[:-1]] + [("f", "abcdef")])
        self.assertEqual(self.alike(one, other), ["abcdef"])
        long = "abababababab"
        one = book_of(long, [("a", "ab"), ("b", "")])
        other = book_of(long, [("a", ""), ("b", "ab")])
        self.assertEqual(self.alike(one, other), ["ab"])
        whole = book_of("aaaaaaaaaaab", [("a", "a"), ("b", "ab")])
        twin = book_of("aaaaaaaaaaab", [("a", "a"), ("b", "ab"), ("c", "c")])
        self.alike(whole, twin)

    def test_letters_that_are_dead_in_both_are_cut_off(self):
        one = book_of("ddab", [("a", "aba"), ("b", "bd"), ("d", "")])
        other = book_of("ddab", [("a", "ab"), ("b", "abd"), ("d", "")])
        self.assertEqual(plain_pieces(one, other), ["d", "ab"])
        self.alike(one, other)

    def test_least_ages(self):
        self.assertEqual(rows_alike(GOLD, MORSE), ("part", 2))
        self.assertEqual(rows_alike(GOLD, ("b", GOLD[1])), ("part", 0))
        self.assertEqual(rows_alike(GOLD, NONE), ("part", 0))
        self.assertEqual(rows_alike(GOLD, called(GOLD, "xy")), ("part", 0))
        self.assertEqual(rows_alike(GOLD, mirrored(GOLD)), ("part", 1))
        chain = [("a", "b"), ("b", "c"), ("c", "d"), ("d", "e"), ("e", "f"), ("f", "g"), ("g", "h")]
        for first, age in [("a", 8), ("b", 7), ("c", 6), ("d", 5), ("e", 4), ("f", 3), ("g", 2), ("h", 1)]:
            one = book_of(first, chain + [("h", "ha")])
            other = book_of(first, chain + [("h", "ah")])
            self.assertEqual(rows_alike(one, other), ("part", age))
            self.assertEqual(rows_alike(other, one), ("part", age))

    def test_rows_that_part_and_are_alike_again(self):
        one = book_of("a", [("a", "b"), ("b", "d"), ("c", "d"), ("d", "d")])
        other = book_of("a", [("a", "c"), ("b", "d"), ("c", "d"), ("d", "d")])
        self.assertEqual(rows_alike(one, other), ("part", 1))

    def test_just_three_hundred_letters(self):
        # At age 3 the rows have 300 letters each and part at the last one; no row ahead is longer.
        rules = [("a", "bbbbb"), ("b", "cccccc")]
        one = book_of("a" * 10, rules + [("c", "c"), ("d", "d")])
        other = book_of("a" * 10, rules + [("c", "d"), ("d", "d")])
        self.assertEqual(length(one, 2), 300)
        self.assertEqual(plain_age(one, other), 3)
        self.assertEqual(rows_alike(one, other), ("part", 3))

    def test_against_rows_written_out(self):
        seen = {"part": 0, "alike": 0, "late": 0}
        for one, other in some_pairs(120, 413):
            age = plain_age(one, other)
            if age is not None:
                self.assertEqual(rows_alike(one, other), ("part", age))
                self.assertEqual(rows_alike(other, one), ("part", age))
                seen["part"] += 1
                seen["late"] += age > 1
            elif plain_pieces(one, other) is not None:
                self.alike(one, other)
                self.alike(other, one)
                seen["alike"] += 1
        self.assertGreater(min(seen.values()), 10, seen)

    def test_never_told_to_part_where_alike(self):
        for one, other, texts in alike_pairs(200, 414):
            try:
                self.assertEqual(rows_alike(one, other)[0], "alike")
            except ValueError:
                refused(self, "TooMany", rows_alike, one, other)

    def test_neither_found(self):
        # They part at age 6, but the rows ahead have more letters than are written down, and plain cutting can't go on.
        chain = [("a", "aaaaaa"), ("c", "d"), ("d", "e"), ("e", "f"), ("f", "g"), ("g", "h")]
        one = book_of("ac", chain + [("h", "a")])
        other = book_of("ac", chain + [("h", "aa")])
        refused(self, "TooMany", rows_alike, one, other)
        refused(self, "TooMany", rows_alike, other, one)
        # Alike for ever, but no text that is turned alike has an end, but the rows themselves, and these grow.
        one = book_of("ab", [("a", "ac"), ("b", "b"), ("c", "c")])
        other = book_of("ab", [("a", "a"), ("b", "cb"), ("c", "c")])
        for age in range(9):
            self.assertEqual(written(*one, age), written(*other, age))
        refused(self, "TooMany", rows_alike, one, other)
        refused(self, "TooMany", rows_alike, other, one)
        # Here the pieces are twice as long at each age, so there are few of them ahead of the first one that is too long.
        one = book_of("ab", [("a", "ac"), ("b", "b"), ("c", "cc")])
        other = book_of("ab", [("a", "a"), ("b", "cb"), ("c", "cc")])
        for age in range(9):
            self.assertEqual(written(*one, age), written(*other, age))
        refused(self, "TooMany", rows_alike, one, other)
        refused(self, "TooMany", rows_alike, other, one)

    def test_rows_that_part_by_a_letter_that_comes_late(self):
        one = book_of("ab", [("a", "ac"), ("b", "b"), ("c", "d"), ("d", "e"), ("e", "f"), ("f", "g"), ("g", "h"),
                             ("h", "b")])
        other = book_of("ab", one[1][:-1] + (("h", "bb"),))
        self.assertEqual(rows_alike(one, other), ("part", 7))
        self.assertEqual(rows_alike(("hab", one[1]), ("hab", other[1])), ("part", 1))

    def test_told_lists_are_the_askers_own(self):
        told = rows_alike(GOLD, GOLD)
        told[1].clear()
        self.assertEqual(rows_alike(GOLD, GOLD), ("alike", ["a", "b"]))


if __name__ == "__main__":
    unittest.main()
