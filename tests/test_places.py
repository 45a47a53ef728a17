import unittest

from helpers import no_ages, no_letters_of, no_numbers, odd_things, refused, some_books, written
from linegrow.books import book_of, letters, word
from linegrow.places import ahead, letter_at, nth, place_of, stretch, way
from linegrow.sums import counts, length

NONE = ("", ())
GOLD = ("a", (("a", "ab"), ("b", "a")))
LINE = ("ab", (("a", "ab"), ("b", "b")))
# Letters die between those that live: the words of c and d come to nothing.
GAPS = book_of("dacab", [("a", "cabd"), ("b", "dba"), ("c", "dd"), ("d", "")])
DYING = ("ab", (("a", "bb"), ("b", "")))
FULL = book_of("hgfedcbaabcd", [(sign, ("abcdefgh" * 2)[place:place + 6]) for place, sign in enumerate("abcdefgh")])
BOOKS = [NONE, GOLD, LINE, GAPS, DYING, ("", GOLD[1])] + some_books(25, 3)


def rows_written(book):
    """Ages with their rows, as long as the rows are short."""
    told = []
    for age in range(7):
        text = written(*book, age)
        if len(text) > 90:
            break
        told.append((age, text))
    return told


def all_ways(book, age):
    """The ways of all places at an age, in their order, by plain going on."""
    told = [[(letter, index)] for index, letter in enumerate(book[0])]
    for step in range(age):
        told = [steps + [(sign, index)] for steps in told for index, sign in enumerate(word(book, steps[-1][0]))]
    return told


class TestWrittenOut(unittest.TestCase):
    def test_letter_and_way_at_every_place(self):
        for book in BOOKS:
            for age, text in rows_written(book):
                ways = all_ways(book, age)
                self.assertEqual(len(ways), len(text))
                for place, letter in enumerate(text):
                    self.assertEqual(letter_at(book, age, place), letter)
                    self.assertEqual(way(book, age, place), ways[place])
                    self.assertEqual(place_of(book, ways[place]), place)

    def test_the_kinds_of_a_way(self):
        told = way(GAPS, 3, 2)
        self.assertIs(type(told), list)
        self.assertEqual(len(told), 4)
        self.assertTrue(all(type(step) is tuple and len(step) == 2 for step in told))

    def test_age_nought(self):
        self.assertEqual(letter_at(GAPS, 0, 3), "a")
        self.assertEqual(way(GAPS, 0, 3), [("a", 3)])
        self.assertEqual(place_of(GAPS, [("a", 3)]), 3)

    def test_stretch_at_every_start_and_number(self):
        for book in BOOKS[:16]:
            for age, text in rows_written(book):
                if len(text) <= 40:
                    for start in range(len(text) + 1):
                        for many in range(len(text) - start + 1):
                            self.assertEqual(stretch(book, age, start, many), text[start:start + many])
                        refused(self, "NoPlace", stretch, book, age, start, len(text) - start + 1)

    def test_ahead_at_every_place_and_at_the_end(self):
        for book in BOOKS:
            for age, text in rows_written(book):
                for letter in letters(book):
                    for place in range(len(text) + 1):
                        self.assertEqual(ahead(book, age, place, letter), text[:place].count(letter))

    def test_nth_of_every_letter(self):
        for book in BOOKS:
            for age, text in rows_written(book):
                for letter in letters(book):
                    places = [place for place, sign in enumerate(text) if sign == letter]
                    for many, place in enumerate(places):
                        self.assertEqual(nth(book, age, letter, many), place)
                    refused(self, "NoPlace", nth, book, age, letter, len(places))


class TestGreatAges(unittest.TestCase):
    def spots(self, whole):
        spots = [0, 1, 2, whole - 1, whole - 2, whole // 2, whole // 3, whole * 7 // 11, 10 ** 20]
        return [place for place in spots if 0 <= place < whole]

    def test_ways_lead_back(self):
        for book in [GOLD, LINE, GAPS, FULL]:
            for age in [299, 300]:
                for place in self.spots(length(book, age)):
                    told = way(book, age, place)
                    self.assertEqual(len(told), age + 1)
                    self.assertEqual(place_of(book, told), place)
                    self.assertEqual(told[-1][0], letter_at(book, age, place))
                    text = book[0]
                    for letter, index in told:
                        self.assertEqual(text[index], letter)
                        text = word(book, letter)

    def test_the_first_and_the_last_place(self):
        whole = length(FULL, 300)
        self.assertGreater(whole, 10 ** 230)
        self.assertEqual(way(FULL, 300, 0)[0], ("h", 0))
        self.assertTrue(all(index == 0 for letter, index in way(FULL, 300, 0)))
        self.assertEqual(way(FULL, 300, whole - 1)[0], ("d", 11))
        self.assertTrue(all(index == 5 for letter, index in way(FULL, 300, whole - 1)[1:]))
        refused(self, "NoPlace", letter_at, FULL, 300, whole)

    def test_known_rows(self):
        self.assertEqual([letter_at(LINE, 300, place) for place in (0, 1, 300, 301)], ["a", "b", "b", "b"])
        # Each row of GOLD begins the next one.
        begin = written(*GOLD, 12)
        for place in [0, 1, 7, 100, 376]:
            self.assertEqual(letter_at(GOLD, 300, place), begin[place])
        self.assertEqual(stretch(GOLD, 300, 0, 100), begin[:100])
        self.assertEqual(stretch(GOLD, 299, 200, 100), begin[200:300])
        # And is the two before it, one behind the other.
        self.assertEqual(stretch(GOLD, 300, length(GOLD, 299), 100), begin[:100])
        self.assertEqual(stretch(GOLD, 300, length(GOLD, 299) + 99, 77), begin[99:176])

    def test_stretches_far_inside(self):
        for book in [GOLD, GAPS, FULL]:
            whole = length(book, 300)
            for start in [0, whole // 3, whole * 7 // 11, whole - 100, whole - 37]:
                inside = min(100, whole - start)
                told = "".join(letter_at(book, 300, start + place) for place in range(inside))
                for many in [0, 1, 2, 37, inside]:
                    self.assertEqual(stretch(book, 300, start, many), told[:many])
            self.assertEqual(stretch(book, 300, whole, 0), "")
            self.assertEqual(len(stretch(book, 300, whole - 100, 100)), 100)
            refused(self, "NoPlace", stretch, book, 300, whole - 99, 100)

    def test_ahead_and_nth_held_against_each_other(self):
        for book in [GOLD, GAPS, FULL]:
            age = 300
            whole = length(book, age)
            totals = dict(zip(letters(book), counts(book, age)))
            for letter, total in totals.items():
                self.assertEqual(ahead(book, age, whole, letter), total)
                self.assertEqual(ahead(book, age, 0, letter), 0)
                for many in self.spots(total):
                    place = nth(book, age, letter, many)
                    self.assertEqual(letter_at(book, age, place), letter)
                    self.assertEqual(ahead(book, age, place, letter), many)
                    self.assertEqual(ahead(book, age, place + 1, letter), many + 1)
                refused(self, "NoPlace", nth, book, age, letter, total)

    def test_ahead_of_all_letters_together_is_the_place(self):
        for book in [GOLD, GAPS, FULL]:
            for place in self.spots(length(book, 300)):
                self.assertEqual(sum(ahead(book, 300, place, letter) for letter in letters(book)), place)


class TestNoPlace(unittest.TestCase):
    def test_of_whatever_kind(self):
        for book, age in [(GOLD, 0), (GOLD, 5), (LINE, 300), (NONE, 0), (DYING, 2), (DYING, 300)]:
            whole = length(book, age)
            for thing in no_numbers(0, whole - 1):
                refused(self, "NoPlace", letter_at, book, age, thing)
                refused(self, "NoPlace", way, book, age, thing)

    def test_an_empty_row_has_none(self):
        for book, age in [(NONE, 0), (NONE, 300), (DYING, 2), (("", GOLD[1]), 4)]:
            refused(self, "NoPlace", letter_at, book, age, 0)
            refused(self, "NoPlace", way, book, age, 0)
            self.assertEqual(stretch(book, age, 0, 0), "")
            refused(self, "NoPlace", stretch, book, age, 0, 1)

    def test_no_age_goes_ahead_whatever_the_place(self):
        for book in [NONE, GOLD]:
            for age in no_ages():
                for place in [0, -1, None, 10 ** 299, True]:
                    refused(self, "NoAge", letter_at, book, age, place)
                    refused(self, "NoAge", way, book, age, place)


class TestNoWay(unittest.TestCase):
    RIGHT = [("a", 1), ("c", 0), ("d", 1)]

    def test_the_right_one(self):
        self.assertEqual(place_of(GAPS, self.RIGHT), 1)

    def test_spoilt_at_a_step(self):
        steps = odd_things() + [
            ["a", 1], ("a",), ("a", 1, 1), (), ("b", 1), ("a", 2), ("a", 5), ("d", 5), ("b", 5), ("a", -1), ("a", -4),
            ("b", -1), ("a", True), ("a", "1"), ("a", None), (1, "a"), ("", 1), ("aa", 1), ("z", 1), ("A", 1), "a1",
            (["a"], 1), ("a", [1]), ("c", 4), ("d", 2), ("d", True), ("d", False), ("a", 10 ** 299), 1, 0, "", "a",
        ]
        for place in range(3):
            for step in steps:
                spoilt = list(self.RIGHT)
                spoilt[place] = step
                refused(self, "NoWay", place_of, GAPS, spoilt)

    def test_an_index_one_too_great(self):
        self.assertEqual(place_of(GOLD, [("a", 0), ("b", 1), ("a", 0)]), 2)
        refused(self, "NoWay", place_of, GOLD, [("a", 1)])
        refused(self, "NoWay", place_of, GOLD, [("a", 0), ("b", 2)])
        refused(self, "NoWay", place_of, GOLD, [("a", 0), ("b", 1), ("a", 1)])

    def test_an_index_from_the_end(self):
        self.assertEqual(place_of(GAPS, [("b", 4)]), 4)
        refused(self, "NoWay", place_of, GAPS, [("b", -1)])
        refused(self, "NoWay", place_of, GAPS, [("a", 1), ("d", -1)])
        refused(self, "NoWay", place_of, GAPS, [("a", -2)])

    def test_a_letter_that_cannot_be_compared(self):
        for thing in odd_things() + [["a"], 1]:
            refused(self, "NoWay", place_of, GAPS, [(thing, 1)])
            refused(self, "NoWay", place_of, GAPS, [("a", 1), (thing, 0)])

    def test_truths_are_no_index(self):
        refused(self, "NoWay", place_of, GOLD, [("a", False)])
        refused(self, "NoWay", place_of, GOLD, [("a", 0), ("b", True)])

    def test_things_of_other_kinds(self):
        wrong = odd_things() + [[], (), tuple(self.RIGHT), [self.RIGHT], "a", "", 0, 1, ["a", "b"], {("a", 1): 1}]
        for thing in wrong:
            refused(self, "NoWay", place_of, GAPS, thing)

    def test_a_letter_that_has_no_word_to_go_on_in(self):
        self.assertEqual(place_of(GAPS, [("d", 0)]), 0)
        refused(self, "NoWay", place_of, GAPS, [("d", 0), ("d", 0)])

    def test_no_way_in_a_book_of_no_letters(self):
        refused(self, "NoWay", place_of, NONE, [])
        refused(self, "NoWay", place_of, NONE, [("a", 0)])
        refused(self, "NoWay", place_of, ("", GOLD[1]), [("a", 0)])

    def test_three_hundred_and_one_steps_and_one_more(self):
        self.assertEqual(place_of(GOLD, [("a", 0)] * 301), 0)
        refused(self, "NoWay", place_of, GOLD, [("a", 0)] * 302)
        self.assertEqual(place_of(LINE, [("b", 1)] + [("b", 0)] * 300), 301)

    def test_a_told_way_that_is_changed_changes_no_later_one(self):
        told = way(GAPS, 2, 1)
        self.assertEqual(told, self.RIGHT)
        told[0] = None
        told.append(("a", 0))
        self.assertEqual(way(GAPS, 2, 1), self.RIGHT)
        self.assertEqual(letter_at(GAPS, 2, 1), "d")

    def test_a_handed_way_stays(self):
        handed = list(self.RIGHT)
        place_of(GAPS, handed)
        self.assertEqual(handed, self.RIGHT)
        handed.append(("d", 0))
        refused(self, "NoWay", place_of, GAPS, handed)
        self.assertEqual(handed, self.RIGHT + [("d", 0)])


class TestStretchRefused(unittest.TestCase):
    def test_of_nought_and_of_a_hundred(self):
        text = "ab" + "b" * 150
        self.assertEqual(stretch(LINE, 150, 0, 0), "")
        self.assertEqual(stretch(LINE, 150, 152, 0), "")
        self.assertEqual(stretch(LINE, 150, 0, 100), text[:100])
        self.assertEqual(stretch(LINE, 150, 52, 100), "b" * 100)
        refused(self, "NoPlace", stretch, LINE, 150, 53, 100)
        refused(self, "NoNumber", stretch, LINE, 150, 0, 101)

    def test_each_kind(self):
        for thing in no_ages():
            refused(self, "NoAge", stretch, GOLD, thing, 0, 0)
        for thing in no_numbers(0, length(GOLD, 5)):
            refused(self, "NoPlace", stretch, GOLD, 5, thing, 0)
        for thing in no_numbers(0, 100):
            refused(self, "NoNumber", stretch, GOLD, 5, 0, thing)

    def test_their_order(self):
        refused(self, "NoAge", stretch, GOLD, 301, -1, -1)
        refused(self, "NoAge", stretch, GOLD, True, None, None)
        refused(self, "NoPlace", stretch, GOLD, 5, -1, -1)
        refused(self, "NoPlace", stretch, GOLD, 5, 14, 101)
        refused(self, "NoPlace", stretch, GOLD, 5, True, True)
        refused(self, "NoNumber", stretch, GOLD, 5, 13, 101)
        refused(self, "NoNumber", stretch, GOLD, 5, 13, True)
        refused(self, "NoPlace", stretch, GOLD, 5, 13, 1)
        refused(self, "NoPlace", stretch, GOLD, 5, 0, 14)
        self.assertEqual(stretch(GOLD, 5, 0, 13), "abaababaabaab")


class TestAheadAndNthRefused(unittest.TestCase):
    def test_ahead_of_each_kind(self):
        for thing in no_ages():
            refused(self, "NoAge", ahead, GOLD, thing, 0, "a")
        for thing in no_numbers(0, length(GOLD, 5)):
            refused(self, "NoPlace", ahead, GOLD, 5, thing, "a")
        for thing in no_letters_of("ab"):
            refused(self, "NoLetter", ahead, GOLD, 5, 0, thing)
            refused(self, "NoLetter", ahead, GOLD, 5, 13, thing)
        refused(self, "NoLetter", ahead, NONE, 5, 0, "a")

    def test_ahead_in_order(self):
        refused(self, "NoAge", ahead, GOLD, -1, -1, "z")
        refused(self, "NoPlace", ahead, GOLD, 5, 14, "z")
        refused(self, "NoPlace", ahead, NONE, 5, 1, "z")
        refused(self, "NoLetter", ahead, GOLD, 5, 13, "z")
        self.assertEqual(ahead(GOLD, 5, 13, "b"), 5)

    def test_nth_of_each_kind(self):
        for thing in no_ages():
            refused(self, "NoAge", nth, GOLD, thing, "a", 0)
        for thing in no_letters_of("ab"):
            refused(self, "NoLetter", nth, GOLD, 5, thing, 0)
        for thing in no_numbers(0, counts(GOLD, 5)[0] - 1):
            refused(self, "NoPlace", nth, GOLD, 5, "a", thing)

    def test_nth_in_order(self):
        refused(self, "NoAge", nth, GOLD, -1, "z", -1)
        refused(self, "NoLetter", nth, GOLD, 5, "z", -1)
        refused(self, "NoLetter", nth, NONE, 5, "a", 0)
        refused(self, "NoPlace", nth, GOLD, 5, "a", -1)
        refused(self, "NoPlace", nth, GOLD, 5, "a", 8)
        self.assertEqual(nth(GOLD, 5, "a", 7), 11)

    def test_letters_that_the_row_has_not(self):
        book = ("a", (("a", "a"), ("b", "b")))
        self.assertEqual(ahead(book, 9, 1, "b"), 0)
        refused(self, "NoPlace", nth, book, 9, "b", 0)


if __name__ == "__main__":
    unittest.main()
