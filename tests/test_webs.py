import unittest

from helpers import later_letters, no_letters_of, refused, ring_texts, some_books, written
from linegrow.books import book_of, letters
from linegrow.webs import reached, rings

NONE = ("", ())
GOLD = ("a", (("a", "ab"), ("b", "a")))
DYING = book_of("a", [("a", "bcb"), ("b", "c"), ("c", ""), ("d", "a")])
# Two rings that share no letter, the one reaching the other, and letters between them.
TWO = book_of("h", [("h", "xb"), ("b", "dc"), ("c", "b"), ("d", "e"), ("e", "zd"), ("x", ""), ("z", "x")])
OWN = book_of("", [("m", "m"), ("n", "nnm"), ("o", "m"), ("k", "")])
ROUND = book_of("", [("a", "c"), ("c", "b"), ("b", "e"), ("e", "d"), ("d", "a")])
BOOKS = [NONE, GOLD, DYING, TWO, OWN, ROUND] + some_books(150, 5) + some_books(150, 6, 1)


class TestReached(unittest.TestCase):
    def test_known_ones(self):
        self.assertEqual([reached(GOLD, letter) for letter in "ab"], ["ab", "ab"])
        self.assertEqual([reached(DYING, letter) for letter in "abcd"], ["abc", "bc", "c", "abcd"])
        self.assertEqual(reached(TWO, "h"), "bcdehxz")
        self.assertEqual(reached(TWO, "e"), "dexz")
        self.assertEqual(reached(OWN, "m"), "m")
        self.assertEqual(reached(OWN, "k"), "k")

    def test_of_every_letter(self):
        for book in BOOKS:
            web = later_letters(book)
            for letter in letters(book):
                self.assertEqual(reached(book, letter), "".join(sorted(web[letter] | {letter})))

    def test_against_rows_written_out(self):
        for book in BOOKS[:60]:
            for letter in letters(book):
                # A row as a set: what stands there at any of the first ages.
                come = {letter}
                for age in range(len(book[1])):
                    come |= set("".join(dict(book[1])[each] for each in come))
                self.assertEqual(reached(book, letter), "".join(sorted(come)))

    def test_no_letter(self):
        for book in [NONE, GOLD, TWO]:
            for thing in no_letters_of(letters(book)):
                refused(self, "NoLetter", reached, book, thing)


class TestRings(unittest.TestCase):
    def test_books_without_any(self):
        self.assertEqual(rings(NONE), [])
        self.assertEqual(rings(DYING), [])

    def test_a_letter_that_has_itself_in_its_word(self):
        self.assertEqual(rings(("", (("a", "a"),))), ["a"])
        self.assertEqual(rings(OWN), ["m", "n"])
        self.assertEqual(rings(GOLD), ["ab"])

    def test_rings_that_share_no_letter_rising(self):
        self.assertEqual(rings(TWO), ["bc", "de"])
        swapped = book_of("", [("a", "z"), ("z", "a"), ("b", "y"), ("y", "b"), ("c", "c")])
        self.assertEqual(rings(swapped), ["az", "by", "c"])

    def test_as_great_as_can_be(self):
        self.assertEqual(rings(ROUND), ["abcde"])
        self.assertEqual(rings(book_of("", [("a", "b"), ("b", "ac"), ("c", "bd"), ("d", "e"), ("e", "")])), ["abc"])

    def test_first_plays_no_part(self):
        self.assertEqual(rings(("", TWO[1])), rings(TWO))

    def test_against_the_web(self):
        for book in BOOKS:
            self.assertEqual(rings(book), ring_texts(book))

    def test_each_of_a_ring_comes_of_each(self):
        for ring in rings(TWO):
            for one in ring:
                come = [written(one, TWO[1], age) for age in range(1, 6)]
                self.assertTrue(all(any(other in text for text in come) for other in ring))

    def test_told_lists_are_the_askers_own(self):
        told = rings(TWO)
        told[0] = "zz"
        told.clear()
        self.assertEqual(rings(TWO), ["bc", "de"])


if __name__ == "__main__":
    unittest.main()
