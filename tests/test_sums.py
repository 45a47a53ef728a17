import unittest

from helpers import no_ages, refused, written
from linegrow.books import book_of, letters
from linegrow.rows import row
from linegrow.sums import counts, length, letter_lengths, table, weight

NONE = ("", ())
GOLD = ("a", (("a", "ab"), ("b", "a")))
LINE = ("a", (("a", "ab"), ("b", "b")))
# Its table isn't the same read by its columns, and one letter dies.
MIX = book_of("cabc", [("c", "aab"), ("a", "bc"), ("b", ""), ("k", "kkkkkk")])
FULL = book_of("hhhhhhhhhhhh", [(letter, "abcdef") for letter in "abcdefg"] + [("h", "hhhhhh")])
WIDE_FIGURES = 10 ** 60 - 1
BOOKS = [NONE, GOLD, LINE, MIX, FULL, ("", GOLD[1]), book_of("zx", [("z", "xz"), ("x", "zzx")])]


def counted(book, text):
    return [text.count(letter) for letter in letters(book)]


def one_age_on(book, before):
    """The counts that the rules make of the counts an age before."""
    told = dict.fromkeys(letters(book), 0)
    for many, (letter, text) in zip(before, book[1]):
        for sign in text:
            told[sign] += many
    return list(told.values())


class TestTable(unittest.TestCase):
    def test_for_each_letter_how_often_each_stands_in_its_word(self):
        self.assertEqual(table(GOLD), [[1, 1], [1, 0]])
        self.assertEqual(table(LINE), [[1, 1], [0, 1]])
        self.assertEqual(table(MIX), [[0, 1, 1, 0], [0, 0, 0, 0], [2, 1, 0, 0], [0, 0, 0, 6]])

    def test_of_no_letters_and_of_eight(self):
        self.assertEqual(table(NONE), [])
        self.assertEqual(table(FULL), [[1, 1, 1, 1, 1, 1, 0, 0]] * 7 + [[0, 0, 0, 0, 0, 0, 0, 6]])

    def test_first_plays_no_part(self):
        self.assertEqual(table(("", GOLD[1])), table(GOLD))

    def test_lists_told_are_the_askers_own(self):
        told = table(GOLD)
        told[0][0] = 7
        told[1].append(9)
        told.append([])
        self.assertEqual(table(GOLD), [[1, 1], [1, 0]])
        self.assertEqual(counts(GOLD, 3), [3, 2])
        kept = table(GOLD)
        table(GOLD)[0].clear()
        self.assertEqual(kept, [[1, 1], [1, 0]])

    def test_alike_lines_are_lists_of_their_own(self):
        told = table(FULL)
        told[0][0] = 7
        self.assertEqual(told[1], [1, 1, 1, 1, 1, 1, 0, 0])


class TestCountsAndLength(unittest.TestCase):
    def test_against_rows_written_out(self):
        for book in BOOKS:
            for age in range(6):
                text = written(book[0], book[1], age)
                self.assertEqual(counts(book, age), counted(book, text))
                self.assertEqual(length(book, age), len(text))

    def test_against_the_programs_own_rows(self):
        for age in range(13):
            self.assertEqual(counts(GOLD, age), counted(GOLD, row(GOLD, age)))
            self.assertEqual(length(GOLD, age), len(row(GOLD, age)))

    def test_age_nought(self):
        self.assertEqual(counts(MIX, 0), [1, 1, 2, 0])
        self.assertEqual(length(MIX, 0), 4)

    def test_each_age_against_the_one_before(self):
        for book in BOOKS:
            for age in [1, 2, 59, 60, 150, 299, 300]:
                self.assertEqual(counts(book, age), one_age_on(book, counts(book, age - 1)))
                self.assertEqual(length(book, age), sum(one_age_on(book, counts(book, age - 1))))

    def test_lengths_that_are_known(self):
        self.assertEqual(length(FULL, 300), 12 * 6 ** 300)
        self.assertEqual(counts(FULL, 300), [0] * 7 + [12 * 6 ** 300])
        self.assertEqual(counts(LINE, 300), [1, 300])
        one, other = 1, 2
        for age in range(300):
            one, other = other, one + other
        self.assertEqual(length(GOLD, 300), one)

    def test_a_row_that_dies(self):
        book = ("ab", (("a", "bb"), ("b", "")))
        self.assertEqual([counts(book, age) for age in (0, 1, 2, 300)], [[1, 1], [0, 2], [0, 0], [0, 0]])
        self.assertEqual([length(book, age) for age in (0, 1, 2, 300)], [2, 2, 0, 0])

    def test_a_book_of_no_letters(self):
        for age in [0, 1, 300]:
            self.assertEqual(counts(NONE, age), [])
            self.assertEqual(length(NONE, age), 0)

    def test_rows_too_long_to_be_written_are_counted(self):
        self.assertEqual(counts(("a", (("a", "aaaaaa"),)), 200), [6 ** 200])

    def test_told_lists_are_the_askers_own(self):
        for age in [0, 3, 300]:
            before = counts(MIX, age)
            told = counts(MIX, age)
            told[0] = -5
            told.append(1)
            self.assertEqual(counts(MIX, age), before)
            self.assertEqual(length(MIX, age), sum(before))


class TestWeight(unittest.TestCase):
    def test_against_rows_written_out(self):
        for book in BOOKS:
            weights = [3, -2, 0, 10 ** 59, -1, 1, 8, -(10 ** 59)][:len(book[1])]
            worth = dict(zip(letters(book), weights))
            for age in range(6):
                self.assertEqual(weight(book, weights, age), sum(worth[sign] for sign in written(*book, age)))

    def test_of_either_sign_and_sixty_figures(self):
        self.assertEqual(weight(GOLD, [WIDE_FIGURES, -WIDE_FIGURES], 0), WIDE_FIGURES)
        self.assertEqual(weight(GOLD, [WIDE_FIGURES, -WIDE_FIGURES], 1), 0)
        self.assertEqual(weight(GOLD, [-WIDE_FIGURES, WIDE_FIGURES], 4), -2 * WIDE_FIGURES)
        self.assertEqual(weight(FULL, [0] * 7 + [-WIDE_FIGURES], 300), -12 * 6 ** 300 * WIDE_FIGURES)

    def test_at_the_last_age_against_the_one_before(self):
        weights = [WIDE_FIGURES, -7, -WIDE_FIGURES, 5]
        grown = one_age_on(MIX, counts(MIX, 299))
        self.assertEqual(weight(MIX, weights, 300), sum(one * other for one, other in zip(weights, grown)))

    def test_single_letters_and_lengths(self):
        for age in [0, 5, 300]:
            self.assertEqual(weight(GOLD, [0, 0], age), 0)
            self.assertEqual(weight(GOLD, [1, 1], age), length(GOLD, age))
            self.assertEqual([weight(GOLD, [1, 0], age), weight(GOLD, [0, 1], age)], counts(GOLD, age))

    def test_a_book_of_no_letters(self):
        self.assertEqual(weight(NONE, [], 0), 0)
        self.assertEqual(weight(NONE, [], 300), 0)

    def test_handed_weights_stay_as_they_were(self):
        weights = [4, -9]
        weight(GOLD, weights, 300)
        self.assertEqual(weights, [4, -9])
        refused(self, "NoAge", weight, GOLD, weights, 301)
        self.assertEqual(weights, [4, -9])

    def test_weights_changed_behind_the_call_change_nothing(self):
        weights = [4, -9]
        self.assertEqual(weight(GOLD, weights, 1), -5)
        weights[0] = 100
        self.assertEqual(weight(GOLD, [4, -9], 1), -5)


class TestLetterLengths(unittest.TestCase):
    def test_against_rows_written_out(self):
        for book in BOOKS:
            for age in range(6):
                told = [len(written(letter, book[1], age)) for letter in letters(book)]
                self.assertEqual(letter_lengths(book, age), told)

    def test_are_the_lengths_of_books_with_the_letter_alone_as_first(self):
        for book in BOOKS:
            for age in [0, 1, 2, 299, 300]:
                told = [length((letter, book[1]), age) for letter in letters(book)]
                self.assertEqual(letter_lengths(book, age), told)

    def test_at_the_last_age_against_the_one_before(self):
        for book in BOOKS:
            before = dict(zip(letters(book), letter_lengths(book, 299)))
            told = [sum(before[sign] for sign in text) for letter, text in book[1]]
            self.assertEqual(letter_lengths(book, 300), told)

    def test_known_ones(self):
        self.assertEqual(letter_lengths(MIX, 0), [1, 1, 1, 1])
        self.assertEqual(letter_lengths(MIX, 1), [2, 0, 3, 6])
        self.assertEqual(letter_lengths(LINE, 300), [301, 1])

    def test_first_plays_no_part(self):
        self.assertEqual(letter_lengths(("", GOLD[1]), 9), letter_lengths(GOLD, 9))

    def test_a_book_of_no_letters(self):
        self.assertEqual(letter_lengths(NONE, 0), [])
        self.assertEqual(letter_lengths(NONE, 300), [])

    def test_told_lists_are_the_askers_own(self):
        for age in [0, 3]:
            before = letter_lengths(MIX, age)
            letter_lengths(MIX, age).clear()
            self.assertEqual(letter_lengths(MIX, age), before)


class TestNoAge(unittest.TestCase):
    def test_of_whatever_kind(self):
        for book in [NONE, GOLD, FULL]:
            weights = [1] * len(book[1])
            for thing in no_ages():
                refused(self, "NoAge", counts, book, thing)
                refused(self, "NoAge", length, book, thing)
                refused(self, "NoAge", weight, book, weights, thing)
                refused(self, "NoAge", letter_lengths, book, thing)

    def test_the_last_age_is_none_too_many(self):
        for tell in [counts, length, letter_lengths]:
            tell(GOLD, 300)
            refused(self, "NoAge", tell, GOLD, 301)


if __name__ == "__main__":
    unittest.main()
