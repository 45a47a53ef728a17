import time
import unittest

from helpers import no_ages, no_numbers, refused, some_books, written
from linegrow.books import book_of, letters
from linegrow.modular import counts_at, length_at, table_at
from linegrow.sums import counts, length, table

NONE = ("", ())
GOLD = ("a", (("a", "ab"), ("b", "a")))
LINE = ("ab", (("a", "ab"), ("b", "b")))
TWOS = ("aaa", (("a", "aa"),))
MIX = book_of("cabc", [("c", "aab"), ("a", "bc"), ("b", ""), ("k", "kkkkkk")])
FULL = book_of("hgfedcbaabcd", [(sign, ("abcdefgh" * 2)[place:place + 6]) for place, sign in enumerate("abcdefgh")])
BOOKS = [NONE, GOLD, LINE, TWOS, MIX, FULL, ("", GOLD[1])] + some_books(20, 7)
LAST = 10 ** 60 - 1
MOST = 10 ** 30 - 1
NUMBERS = [1, 2, 7, 1000, 10 ** 9 + 7, MOST]


def table_written(book, age):
    """By counts of letters in rows that are led on age by age."""
    return [counts((letter, book[1]), age) for letter in letters(book)]


def left(line, number):
    return [entry % number for entry in line]


def led(one, other, number):
    """One table led through another."""
    many = range(len(one))
    return [[sum(line[k] * other[k][j] for k in many) % number for j in many] for line in one]


class TestAgainstSums(unittest.TestCase):
    def test_rows_written_out(self):
        for book in BOOKS:
            for age in range(6):
                text = written(*book, age)
                told = [text.count(letter) for letter in letters(book)]
                for number in NUMBERS:
                    self.assertEqual(counts_at(book, age, number), left(told, number))
                    self.assertEqual(length_at(book, age, number), len(text) % number)
                    rows = [written(letter, book[1], age) for letter in letters(book)]
                    lines = [left([row.count(letter) for letter in letters(book)], number) for row in rows]
                    self.assertEqual(table_at(book, age, number), lines)

    def test_ages_up_to_three_hundred(self):
        for book in BOOKS[:10]:
            for age in [0, 1, 2, 3, 7, 8, 63, 64, 65, 127, 255, 256, 299, 300]:
                lines = table_written(book, age)
                for number in [1, 2, 10 ** 9 + 7, MOST]:
                    self.assertEqual(table_at(book, age, number), [left(line, number) for line in lines])
                    self.assertEqual(counts_at(book, age, number), left(counts(book, age), number))
                    self.assertEqual(length_at(book, age, number), length(book, age) % number)

    def test_every_age_up_to_three_hundred(self):
        for age in range(301):
            self.assertEqual(counts_at(GOLD, age, MOST), left(counts(GOLD, age), MOST))
            self.assertEqual(length_at(MIX, age, 97), length(MIX, age) % 97)

    def test_ages_just_beyond_three_hundred(self):
        self.assertEqual(counts_at(LINE, 301, MOST), [1, 302])
        self.assertEqual(length_at(TWOS, 301, MOST), 3 * 2 ** 301 % MOST)

    def test_age_nought(self):
        self.assertEqual(table_at(GOLD, 0, 2), [[1, 0], [0, 1]])
        self.assertEqual(counts_at(MIX, 0, 2), [1, 1, 0, 0])
        self.assertEqual(counts_at(MIX, 0, 3), [1, 1, 2, 0])
        self.assertEqual(length_at(MIX, 0, 4), 0)
        self.assertEqual(length_at(MIX, 0, 5), 4)

    def test_age_one_is_the_table(self):
        for book in BOOKS:
            self.assertEqual(table_at(book, 1, MOST), table(book))


class TestSixtyFigures(unittest.TestCase):
    def test_two_ages_together(self):
        ages = [0, 1, 5, 300, 10 ** 30, 10 ** 59, 123456789 * 10 ** 45, LAST // 2]
        for book in [NONE, GOLD, MIX, FULL]:
            for one in ages:
                other = LAST - one
                for number in [10 ** 9 + 7, MOST]:
                    both = led(table_at(book, one, number), table_at(book, other, number), number)
                    self.assertEqual(table_at(book, LAST, number), both)

    def test_counts_are_the_first_row_led_through_the_table(self):
        for book in BOOKS[:12]:
            start = counts(book, 0)
            for age in [10 ** 59 + 3, LAST]:
                lines = table_at(book, age, MOST)
                told = [sum(many * line[j] for many, line in zip(start, lines)) % MOST for j in range(len(lines))]
                self.assertEqual(counts_at(book, age, MOST), told)
                self.assertEqual(length_at(book, age, MOST), sum(told) % MOST)

    def test_known_ones(self):
        for number in NUMBERS:
            self.assertEqual(length_at(TWOS, LAST, number), 3 * pow(2, LAST, number) % number)
            self.assertEqual(counts_at(LINE, LAST, number), [1 % number, (LAST + 1) % number])
            self.assertEqual(length_at(LINE, LAST, number), (LAST + 2) % number)
        self.assertEqual(table_at(LINE, LAST, MOST), [[1, LAST % MOST], [0, 1]])

    def test_numbers_that_come_again(self):
        # The lengths of GOLD divided by 2 leave the same over every three ages.
        for step in range(3):
            self.assertEqual(length_at(GOLD, 3 * 10 ** 59 + step, 2), length(GOLD, step) % 2)

    def test_they_come_at_once(self):
        begin = time.perf_counter()
        table_at(FULL, LAST, MOST)
        counts_at(FULL, LAST, MOST)
        length_at(FULL, LAST, MOST)
        self.assertLess(time.perf_counter() - begin, 5)


class TestEdges(unittest.TestCase):
    def test_the_number_one_leaves_nothing(self):
        for book in BOOKS:
            many = len(book[1])
            for age in [0, 1, 2, 300, LAST]:
                self.assertEqual(table_at(book, age, 1), [[0] * many] * many)
                self.assertEqual(counts_at(book, age, 1), [0] * many)
                self.assertEqual(length_at(book, age, 1), 0)

    def test_a_book_of_no_letters(self):
        for age in [0, 1, LAST]:
            for number in NUMBERS:
                self.assertEqual(table_at(NONE, age, number), [])
                self.assertEqual(counts_at(NONE, age, number), [])
                self.assertEqual(length_at(NONE, age, number), 0)

    def test_the_length_is_left_over_of_the_whole(self):
        # Each count leaves 1, the length none.
        book = ("ab", (("a", "a"), ("b", "b")))
        self.assertEqual(counts_at(book, 9, 2), [1, 1])
        self.assertEqual(length_at(book, 9, 2), 0)

    def test_told_lists_are_the_askers_own(self):
        for age in [0, 1, 4]:
            told = table_at(GOLD, age, 100)
            before = [list(line) for line in told]
            told[0][0] = -1
            told[1].clear()
            self.assertEqual(table_at(GOLD, age, 100), before)
            line = counts_at(GOLD, age, 100)
            kept = list(line)
            line.append(5)
            self.assertEqual(counts_at(GOLD, age, 100), kept)


class TestRefused(unittest.TestCase):
    TELL = [table_at, counts_at, length_at]

    def test_no_age(self):
        for tell in self.TELL:
            for book in [NONE, GOLD]:
                for thing in no_ages(LAST):
                    refused(self, "NoAge", tell, book, thing, 5)
                tell(book, LAST, 5)
                refused(self, "NoAge", tell, book, 10 ** 60, 5)

    def test_no_number(self):
        for tell in self.TELL:
            for book in [NONE, GOLD]:
                for thing in no_numbers(1, MOST):
                    refused(self, "NoNumber", tell, book, 0, thing)
                    refused(self, "NoNumber", tell, book, LAST, thing)
                tell(book, 5, MOST)
                refused(self, "NoNumber", tell, book, 5, 0)
                refused(self, "NoNumber", tell, book, 5, 10 ** 30)

    def test_the_age_goes_first(self):
        for tell in self.TELL:
            for number in [0, True, None, "1", 10 ** 30]:
                for age in [-1, 10 ** 60, True, "3", None, [3]]:
                    refused(self, "NoAge", tell, NONE, age, number)
                    refused(self, "NoAge", tell, GOLD, age, number)


if __name__ == "__main__":
    unittest.main()
