import unittest

from helpers import no_ages, no_numbers, refused, some_books, written
from linegrow.books import book_of, word
from linegrow.heirs import forebear, heirs
from linegrow.places import letter_at, way
from linegrow.sums import length

NONE = ("", ())
GOLD = ("a", (("a", "ab"), ("b", "a")))
LINE = ("ab", (("a", "ab"), ("b", "b")))
GAPS = book_of("dacab", [("a", "cabd"), ("b", "dba"), ("c", "dd"), ("d", "")])
FULL = book_of("hgfedcbaabcd", [(sign, ("abcdefgh" * 2)[place:place + 6]) for place, sign in enumerate("abcdefgh")])
BOOKS = [NONE, GOLD, LINE, GAPS, ("ab", (("a", "bb"), ("b", "")))] + some_books(25, 11)


def origins(book, age, more):
    """For each place of the row at age + more the place at age of whose letter it came, by plain going on."""
    text = written(*book, age)
    told = [(letter, place) for place, letter in enumerate(text)]
    for step in range(more):
        told = [(sign, place) for letter, place in told for sign in word(book, letter)]
    return [place for sign, place in told]


class TestWrittenOut(unittest.TestCase):
    def each_pair(self):
        for book in BOOKS:
            for age in range(5):
                if len(written(*book, age)) <= 60:
                    for more in range(4):
                        if len(written(*book, age + more)) <= 400:
                            yield book, age, more

    def test_heirs(self):
        for book, age, more in self.each_pair():
            came = origins(book, age, more)
            for place in range(len(written(*book, age))):
                start = len([each for each in came if each < place])
                self.assertEqual(heirs(book, age, place, more), (start, came.count(place)))

    def test_forebears(self):
        for book, age, more in self.each_pair():
            for later, place in enumerate(origins(book, age, more)):
                self.assertEqual(forebear(book, age + more, later, more), place)

    def test_none_more_and_none_less(self):
        for place in range(5):
            self.assertEqual(heirs(GAPS, 0, place, 0), (place, 1))
            self.assertEqual(forebear(GAPS, 0, place, 0), place)
            self.assertEqual(heirs(GOLD, 4, place, 0), (place, 1))
            self.assertEqual(forebear(GOLD, 4, place, 0), place)

    def test_where_there_are_none_start_is_told_all_the_same(self):
        # d has none an age later, c has none two ages later.
        self.assertEqual(heirs(GAPS, 0, 0, 1), (0, 0))
        self.assertEqual(heirs(GAPS, 0, 2, 1), (4, 2))
        self.assertEqual(heirs(GAPS, 0, 2, 2)[1], 0)
        self.assertEqual(heirs(GAPS, 0, 2, 2)[0], sum(heirs(GAPS, 0, 1, 2)))
        self.assertEqual(heirs(("ab", (("a", "b"), ("b", ""))), 0, 1, 1), (1, 0))
        self.assertEqual(heirs(("ab", (("a", "b"), ("b", ""))), 0, 1, 300), (0, 0))

    def test_the_kind(self):
        told = heirs(GOLD, 3, 1, 2)
        self.assertIs(type(told), tuple)
        self.assertEqual(told, (3, 2))


class TestGreatAges(unittest.TestCase):
    def test_up_to_the_last_age(self):
        self.assertEqual(heirs(LINE, 0, 0, 300), (0, 301))
        self.assertEqual(heirs(LINE, 0, 1, 300), (301, 1))
        self.assertEqual(heirs(LINE, 100, 50, 200), (250, 1))
        self.assertEqual(forebear(LINE, 300, 301, 300), 1)
        self.assertEqual(forebear(LINE, 300, 300, 300), 0)
        self.assertEqual(forebear(LINE, 300, 250, 200), 50)

    def test_heirs_stand_one_behind_another(self):
        for book in [GOLD, GAPS, FULL]:
            behind = 0
            for place in range(len(book[0])):
                told = heirs(book, 0, place, 300)
                self.assertEqual(told[0], behind)
                behind += told[1]
            self.assertEqual(behind, length(book, 300))

    def test_a_place_is_among_the_heirs_of_its_forebear_alone(self):
        for book in [GOLD, GAPS, FULL]:
            for age in [100, 300]:
                whole = length(book, age)
                for place in [0, 1, whole // 2, whole * 5 // 7, whole - 1]:
                    for less in [0, 1, 2, 50, age - 1, age]:
                        elder = forebear(book, age, place, less)
                        told = heirs(book, age - less, elder, less)
                        self.assertTrue(told[0] <= place < sum(told))
                        self.assertEqual(letter_at(book, age - less, elder), way(book, age, place)[age - less][0])

    def test_many_is_the_length_of_the_letters_row(self):
        for place in range(12):
            letter = FULL[0][place]
            self.assertEqual(heirs(FULL, 0, place, 299)[1], length((letter, FULL[1]), 299))


class TestRefused(unittest.TestCase):
    def test_no_age(self):
        for book in [NONE, GOLD]:
            for thing in no_ages():
                refused(self, "NoAge", heirs, book, thing, 0, 0)
                refused(self, "NoAge", forebear, book, thing, 0, 0)

    def test_no_place(self):
        for thing in no_numbers(0, 12):
            refused(self, "NoPlace", heirs, GOLD, 5, thing, 0)
            refused(self, "NoPlace", forebear, GOLD, 5, thing, 0)
        refused(self, "NoPlace", heirs, NONE, 5, 0, 0)
        refused(self, "NoPlace", forebear, NONE, 5, 0, 0)

    def test_no_such_more(self):
        for age in [0, 5, 299, 300]:
            for thing in no_numbers(0, 300 - age):
                refused(self, "NoAge", heirs, LINE, age, 0, thing)
            heirs(LINE, age, 0, 300 - age)
            refused(self, "NoAge", heirs, LINE, age, 0, 301 - age)

    def test_no_such_less(self):
        for age in [0, 5, 299, 300]:
            for thing in no_numbers(0, age):
                refused(self, "NoAge", forebear, LINE, age, 0, thing)
            forebear(LINE, age, 0, age)
            refused(self, "NoAge", forebear, LINE, age, 0, age + 1)

    def test_their_order(self):
        for tell in [heirs, forebear]:
            refused(self, "NoAge", tell, GOLD, 301, -1, -1)
            refused(self, "NoPlace", tell, GOLD, 5, 13, -1)
            refused(self, "NoPlace", tell, GOLD, 5, None, None)
            refused(self, "NoAge", tell, GOLD, 5, 12, -1)


if __name__ == "__main__":
    unittest.main()
