import unittest

from helpers import no_ages, odd_things, refused, written
from linegrow.books import book_of
from linegrow.rows import row, rows, turned

NONE = ("", ())
GOLD = ("a", (("a", "ab"), ("b", "a")))
SWAP = ("ab", (("a", "b"), ("b", "a")))
LINE = ("a", (("a", "ab"), ("b", "b")))
# 12, 72, 432, 2592 letters, and from age 4 on none.
BURST = ("aaaaaaaaaaaa", (("a", "bbbbbb"), ("b", "cccccc"), ("c", "dddddd"), ("d", "")))
# 10, 50, 100, 600 letters: just as many as may be, and from age 4 on none.
JUST = ("aaaaaaaaaa", (("a", "bbbbb"), ("b", "cc"), ("c", "dddddd"), ("d", ""), ("e", "e")))
# The same with a letter that stays: 601 at age 3, and 1 from age 4 on.
OVER = ("aaaaaaaaaae", JUST[1])


class TestTurned(unittest.TestCase):
    def test_each_letter_by_its_word_in_order(self):
        self.assertEqual(turned(GOLD, "a"), "ab")
        self.assertEqual(turned(GOLD, "abba"), "abaaab")
        self.assertEqual(turned(("", (("a", "bc"), ("b", ""), ("c", "cab"))), "cbac"), "cabbccab")

    def test_all_at_once(self):
        self.assertEqual(turned(SWAP, "aab"), "bba")

    def test_letters_that_first_has_not(self):
        self.assertEqual(turned(("", (("a", "b"), ("b", "a"))), "ab"), "ba")

    def test_the_empty_text(self):
        self.assertEqual(turned(GOLD, ""), "")
        self.assertEqual(turned(NONE, ""), "")

    def test_six_hundred_letters_and_one_more(self):
        book = ("", (("a", "abcdef"), ("b", ""), ("c", ""), ("d", ""), ("e", ""), ("f", "")))
        self.assertEqual(turned(book, "a" * 600), "abcdef" * 600)
        self.assertEqual(turned(book, "b" * 600), "")
        refused(self, "NoLetter", turned, book, "a" * 601)
        refused(self, "NoLetter", turned, book, "b" * 601)
        refused(self, "NoLetter", turned, book, "b" * 1000)

    def test_what_is_no_text_of_letters_of_the_book(self):
        wrong = odd_things() + [0, 1, -1, [], ["a"], (), ("a", "b"), "c", "abc", "aA", "a b", " ", "a\n", "1", "\u00e9"]
        for thing in wrong:
            refused(self, "NoLetter", turned, GOLD, thing)
        refused(self, "NoLetter", turned, NONE, "a")


class TestRow(unittest.TestCase):
    def test_age_nought_is_first(self):
        for book in [NONE, GOLD, SWAP, LINE, BURST]:
            self.assertEqual(row(book, 0), book[0])
            self.assertEqual(rows(book, 0), [book[0]])

    def test_known_rows(self):
        self.assertEqual(rows(GOLD, 5), ["a", "ab", "aba", "abaab", "abaababa", "abaababaabaab"])
        self.assertEqual(row(GOLD, 4), "abaababa")
        self.assertEqual(rows(SWAP, 3), ["ab", "ba", "ab", "ba"])

    def test_against_plain_replacing(self):
        books = [
            GOLD, SWAP, LINE, NONE,
            book_of("cab", [("a", "bc"), ("b", ""), ("c", "ab")]),
            book_of("hh", [("h", "k"), ("k", "hk"), ("m", "")]),
        ]
        for book in books:
            for age in range(9):
                self.assertEqual(row(book, age), written(book[0], book[1], age))
                self.assertEqual(rows(book, age), [written(book[0], book[1], each) for each in range(age + 1)])

    def test_up_to_the_last_age(self):
        for age in [1, 17, 299, 300]:
            self.assertEqual(row(LINE, age), "a" + "b" * age)
            self.assertEqual(rows(LINE, age), ["a" + "b" * each for each in range(age + 1)])
            self.assertEqual(row(SWAP, age), "ba" if age % 2 else "ab")
            self.assertEqual(row(NONE, age), "")
            self.assertEqual(rows(NONE, age), [""] * (age + 1))

    def test_rows_that_die(self):
        book = ("ab", (("a", "bb"), ("b", "")))
        self.assertEqual(rows(book, 4), ["ab", "bb", "", "", ""])
        self.assertEqual(row(book, 300), "")

    def test_a_told_list_is_the_askers_own(self):
        told = rows(GOLD, 3)
        told[1] = "zzz"
        told.append("more")
        self.assertEqual(rows(GOLD, 3), ["a", "ab", "aba", "abaab"])
        self.assertEqual(rows(GOLD, 4), ["a", "ab", "aba", "abaab", "abaababa"])
        self.assertEqual(row(GOLD, 1), "ab")


class TestTooLong(unittest.TestCase):
    def test_just_six_hundred_and_one_more(self):
        self.assertEqual(row(JUST, 3), "d" * 600)
        self.assertEqual(rows(JUST, 4), ["a" * 10, "b" * 50, "c" * 100, "d" * 600, ""])
        self.assertEqual(row(JUST, 300), "")
        self.assertEqual(row(OVER, 2), "c" * 100 + "e")
        refused(self, "TooLong", row, OVER, 3)
        refused(self, "TooLong", rows, OVER, 3)

    def test_at_the_last_age(self):
        rules = (("a", "abb"), ("b", "b"), ("c", "ab"))
        self.assertEqual(row(("c", rules), 300), "a" + "bb" * 299 + "b")
        self.assertEqual(rows(("c", rules), 300)[300], "a" + "bb" * 299 + "b")
        self.assertEqual(row(("a", rules), 299), "a" + "bb" * 299)
        refused(self, "TooLong", row, ("a", rules), 300)
        refused(self, "TooLong", rows, ("a", rules), 300)

    def test_also_where_only_a_lesser_age_has_more(self):
        self.assertEqual(len(row(BURST, 2)), 432)
        for age in [3, 4, 5, 300]:
            refused(self, "TooLong", row, BURST, age)
            refused(self, "TooLong", rows, BURST, age)
            refused(self, "TooLong", row, OVER, age)
            refused(self, "TooLong", rows, OVER, age)
        self.assertEqual(written(BURST[0], BURST[1], 4), "")
        self.assertEqual(written(OVER[0], OVER[1], 4), "e")

    def test_a_growing_row(self):
        self.assertEqual(len(row(GOLD, 12)), 377)
        refused(self, "TooLong", row, GOLD, 13)
        refused(self, "TooLong", rows, GOLD, 300)

    def test_what_is_refused_changes_nothing(self):
        refused(self, "TooLong", rows, GOLD, 300)
        self.assertEqual(rows(GOLD, 2), ["a", "ab", "aba"])


class TestNoAge(unittest.TestCase):
    def test_of_whatever_kind(self):
        for book in [NONE, SWAP, LINE]:
            for thing in no_ages():
                refused(self, "NoAge", row, book, thing)
                refused(self, "NoAge", rows, book, thing)

    def test_ahead_of_too_long(self):
        for book in [GOLD, BURST, OVER]:
            for thing in no_ages():
                refused(self, "NoAge", row, book, thing)
                refused(self, "NoAge", rows, book, thing)


if __name__ == "__main__":
    unittest.main()
