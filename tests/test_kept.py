import unittest

from helpers import no_ages, no_numbers, odd_things, refused, some_books, written
from linegrow.books import book_of
from linegrow.changed import mirrored
from linegrow.kept import ended, endless, keeps
from linegrow.parting import parting
from linegrow.places import letter_at
from linegrow.sums import length

NONE = ("", ())
GOLD = ("a", (("a", "ab"), ("b", "a")))
LINE = ("a", (("a", "ab"), ("b", "b")))
MORSE = ("a", (("a", "ab"), ("b", "ba")))
SWAP = ("ab", (("a", "b"), ("b", "a")))
# Each step adds what comes of b, which is dead behind seven of them.
FADING = book_of("a", [("a", "ab"), ("b", "c"), ("c", "d"), ("d", "e"), ("e", "f"), ("f", "g"), ("g", "h"), ("h", "")])
# At age 2 and 3 its rows are two hundred times c, each c another one's heir, so each is a block of its own.
JUST = book_of("a" * 10, [("a", "bbbbb"), ("b", "cccc"), ("c", "c")])
ONE_MORE = (JUST[0] + "c", JUST[1])
# Its rows one age apart are alike to the last letters but two, by a block for each age and one more.
LATE = ("ba", GOLD[1])


def no_places():
    return odd_things() + [-1, -(10 ** 299), "", "0", "a", [], [0], (), (0,)]


def short_cases():
    """Books with a start and a turn; rows of at most 200 letters at the start are never in need of more blocks."""
    for book in some_books(60, 211, 2, 3) + some_books(60, 212, 3, 2) + [NONE, GOLD, LINE, MORSE, SWAP, FADING]:
        for start in range(4):
            for turn in range(1, 4):
                if len(written(*book, start)) <= 200 and length(book, start + turn) <= 3000:
                    yield book, start, turn


def plain_ended(book, start, turn):
    """By going on far beyond where all that dies is dead; None where the rows get longer even then."""
    texts = [written(*book, start + turn * step) for step in range(12)]
    return len(texts[-1]) if texts[-1] == texts[-2] else None


class TestKeeps(unittest.TestCase):
    def test_against_rows_written_out(self):
        seen = {}
        for book, start, turn in short_cases():
            elder, later = written(*book, start), written(*book, start + turn)
            told = keeps(book, start, turn)
            self.assertIs(told, later.startswith(elder))
            name = "is" if elder == later else "begins" if told else "shorter" if elder.startswith(later) else "parts"
            seen[name] = seen.get(name, 0) + 1
        self.assertEqual(sorted(seen), ["begins", "is", "parts", "shorter"])
        self.assertGreater(min(seen.values()), 20)

    def test_a_later_row_that_is_a_beginning_of_the_row_itself(self):
        self.assertIs(keeps(("aa", (("a", "b"), ("b", ""))), 1, 1), False)
        self.assertIs(keeps(("ab", (("a", "a"), ("b", ""))), 0, 1), False)
        self.assertIs(keeps(("ab", (("a", "a"), ("b", ""))), 1, 1), True)

    def test_the_first_and_the_last_ages(self):
        self.assertIs(keeps(GOLD, 0, 1), True)
        self.assertIs(keeps(GOLD, 0, 300), True)
        self.assertIs(keeps(GOLD, 299, 1), True)
        self.assertIs(keeps(GOLD, 150, 150), True)
        self.assertIs(keeps(("b", GOLD[1]), 0, 1), False)
        self.assertIs(keeps(("b", GOLD[1]), 1, 1), True)
        self.assertIs(keeps(SWAP, 299, 1), False)
        self.assertIs(keeps(SWAP, 0, 300), True)
        self.assertIs(keeps(SWAP, 0, 299), False)
        self.assertIs(keeps(mirrored(GOLD), 299, 1), False)
        # Turned twice, ab and a of the other way round begin as they did.
        self.assertIs(keeps(("b", (("a", "ba"), ("b", "a"))), 1, 2), True)

    def test_empty_rows(self):
        self.assertIs(keeps(NONE, 0, 1), True)
        self.assertIs(keeps(NONE, 299, 1), True)
        self.assertIs(keeps(("", GOLD[1]), 0, 300), True)
        self.assertIs(keeps(("a", (("a", ""),)), 0, 1), False)
        self.assertIs(keeps(("a", (("a", ""),)), 1, 299), True)

    def test_no_ages(self):
        for thing in no_ages():
            refused(self, "NoAge", keeps, GOLD, thing, 1)
            refused(self, "NoAge", ended, GOLD, thing, 1)
            refused(self, "NoAge", endless, GOLD, thing, 1, 0)
            refused(self, "NoAge", keeps, NONE, thing, 1)

    def test_no_turns(self):
        for start in [0, 1, 150, 299]:
            for thing in no_numbers(1, 300 - start):
                refused(self, "NoAge", keeps, GOLD, start, thing)
                refused(self, "NoAge", ended, GOLD, start, thing)
                refused(self, "NoAge", endless, GOLD, start, thing, 0)
        for thing in [0, 1, 300, -1]:
            refused(self, "NoAge", keeps, GOLD, 300, thing)
            refused(self, "NoAge", keeps, NONE, 300, thing)


class TestEnded(unittest.TestCase):
    def test_against_rows_written_out(self):
        seen = {}
        for book, start, turn in short_cases():
            if not keeps(book, start, turn):
                refused(self, "NotKept", ended, book, start, turn)
            elif length(book, start + 12 * turn) <= 20000:
                told = ended(book, start, turn)
                self.assertEqual(told, plain_ended(book, start, turn))
                sort = "grows" if told is None else "same" if told == length(book, start) else "ends"
                seen[sort] = seen.get(sort, 0) + 1
        self.assertEqual(sorted(seen), ["ends", "grows", "same"])
        self.assertGreater(min(seen.values()), 10)

    def test_rows_that_get_longer_for_ever(self):
        for book in [GOLD, LINE, MORSE]:
            for start, turn in [(0, 1), (0, 300), (299, 1), (150, 150), (7, 9)]:
                self.assertIsNone(ended(book, start, turn))

    def test_rows_that_are_the_same_at_once(self):
        self.assertEqual(ended(NONE, 0, 1), 0)
        self.assertEqual(ended(("", GOLD[1]), 299, 1), 0)
        self.assertEqual(ended(SWAP, 0, 2), 2)
        self.assertEqual(ended(SWAP, 0, 300), 2)
        self.assertEqual(ended(("a", (("a", ""),)), 299, 1), 0)
        self.assertEqual(ended(JUST, 2, 298), 200)

    def test_rows_that_are_the_same_behind_some_steps(self):
        self.assertEqual(ended(FADING, 0, 1), 8)
        self.assertEqual(ended(FADING, 1, 1), 8)
        self.assertEqual(ended(FADING, 6, 1), 8)
        self.assertEqual(ended(FADING, 0, 3), 8)
        self.assertEqual(ended(FADING, 2, 5), 8)
        self.assertEqual(ended(FADING, 0, 300), 8)
        self.assertEqual(ended(FADING, 2, 298), 8)
        self.assertEqual(ended(FADING, 299, 1), 8)

    def test_what_fades_beside_what_goes_on(self):
        # Only one of the letters behind lasts, and that is enough.
        lasting = book_of("a", [("a", "abd"), ("b", "c"), ("c", ""), ("d", "d")])
        self.assertIsNone(ended(lasting, 0, 1))
        # A letter that reaches one that lasts, by way of two others.
        slow = book_of("a", [("a", "ab"), ("b", "c"), ("c", "d"), ("d", "d")])
        self.assertIsNone(ended(slow, 0, 1))

    def test_not_kept(self):
        refused(self, "NotKept", ended, SWAP, 0, 1)
        refused(self, "NotKept", ended, mirrored(GOLD), 299, 1)
        refused(self, "NotKept", ended, ("a", (("a", ""),)), 0, 300)


class TestEndless(unittest.TestCase):
    def test_against_rows_written_out(self):
        far = 0
        for book, start, turn in short_cases():
            if not keeps(book, start, turn):
                refused(self, "NotKept", endless, book, start, turn, 0)
                continue
            end = ended(book, start, turn)
            text = written(*book, start + turn * (8 if end is not None else 1))
            for place, letter in list(enumerate(text))[:40]:
                self.assertEqual(endless(book, start, turn, place), letter)
            if end is not None:
                self.assertEqual(len(text), end)
                for place in [end, end + 1, 10 ** 299]:
                    refused(self, "TooFar", endless, book, start, turn, place)
                far += 1
        self.assertGreater(far, 20)

    def test_places_of_the_first_row_and_of_later_ones(self):
        text = written(*GOLD, 14)
        self.assertEqual("".join(endless(GOLD, 0, 1, place) for place in range(len(text))), text)
        self.assertEqual("".join(endless(GOLD, 3, 4, place) for place in range(len(text))), text)
        self.assertEqual("".join(endless(FADING, 0, 1, place) for place in range(8)), "abcdefgh")
        self.assertEqual("".join(endless(FADING, 0, 300, place) for place in range(8)), "abcdefgh")
        self.assertEqual(endless(SWAP, 0, 2, 1), "b")

    def test_places_of_many_figures(self):
        for place in [10 ** 20, 10 ** 50 + 7, length(GOLD, 299), length(GOLD, 300) - 1]:
            self.assertEqual(endless(GOLD, 0, 1, place), letter_at(GOLD, 300, place))
            self.assertEqual(endless(GOLD, 0, 300, place), letter_at(GOLD, 300, place))
        for place in [2 ** 299, 2 ** 300 - 1, 10 ** 88]:
            self.assertEqual(endless(MORSE, 4, 2, place), "ab"[bin(place).count("1") % 2])

    def test_the_least_such_age_is_asked_though_the_book_changes_its_letters_there(self):
        # Kept by 2 alone: the rows between are others.
        book = book_of("a", [("a", "b"), ("b", "ac"), ("c", "c")])
        self.assertIs(keeps(book, 0, 1), False)
        self.assertIs(keeps(book, 0, 2), True)
        self.assertEqual("".join(endless(book, 0, 2, place) for place in range(5)), "acccc")
        self.assertEqual("".join(endless(book, 1, 2, place) for place in range(5)), "bcccc")
        self.assertEqual(endless(book, 0, 2, 150), "c")
        refused(self, "TooFar", endless, book, 0, 2, 151)
        self.assertEqual(endless(book, 1, 2, 149), "c")
        refused(self, "TooFar", endless, book, 1, 2, 150)

    def test_too_far(self):
        refused(self, "TooFar", endless, GOLD, 0, 1, length(GOLD, 300))
        refused(self, "TooFar", endless, GOLD, 0, 1, 10 ** 299)
        refused(self, "TooFar", endless, GOLD, 0, 7, length(GOLD, 294))
        self.assertEqual(endless(GOLD, 0, 7, length(GOLD, 294) - 1), letter_at(GOLD, 294, length(GOLD, 294) - 1))
        refused(self, "TooFar", endless, GOLD, 299, 1, length(GOLD, 300))
        refused(self, "TooFar", endless, NONE, 0, 1, 0)
        refused(self, "TooFar", endless, FADING, 0, 1, 8)
        refused(self, "TooFar", endless, SWAP, 0, 2, 2)

    def test_no_places(self):
        for thing in no_places():
            refused(self, "NoPlace", endless, GOLD, 0, 1, thing)
            refused(self, "NoPlace", endless, NONE, 0, 1, thing)
            refused(self, "NoPlace", endless, SWAP, 0, 1, thing)
            refused(self, "NoPlace", endless, LATE, 300 - 1, 1, thing)

    def test_which_goes_first(self):
        refused(self, "NoAge", endless, GOLD, -1, 0, None)
        refused(self, "NoAge", endless, GOLD, 0, 0, None)
        refused(self, "NoAge", endless, SWAP, 0, 301, -1)
        refused(self, "NoAge", endless, GOLD, 150, 151, None)
        refused(self, "NoAge", endless, SWAP, 299, 2, -1)
        refused(self, "NotKept", endless, SWAP, 0, 1, 10 ** 299)
        refused(self, "TooMany", endless, LATE, 299, 1, 10 ** 299)


class TestTooMany(unittest.TestCase):
    def test_just_two_hundred_blocks_and_one_more(self):
        self.assertEqual(len(parting(JUST, 2, JUST, 3)[2]), 200)
        self.assertIs(keeps(JUST, 2, 1), True)
        self.assertEqual(ended(JUST, 2, 1), 200)
        self.assertEqual(endless(JUST, 2, 1, 199), "c")
        refused(self, "TooFar", endless, JUST, 2, 1, 200)
        refused(self, "TooMany", keeps, ONE_MORE, 2, 1)
        refused(self, "TooMany", ended, ONE_MORE, 2, 1)
        refused(self, "TooMany", endless, ONE_MORE, 2, 1, 0)

    def test_where_rows_part_behind_many_blocks(self):
        last = max(age for age in range(190, 205) if self.blocks(age) is not None)
        self.assertEqual(self.blocks(last), 200)
        self.assertIs(keeps(LATE, last, 1), False)
        refused(self, "NotKept", ended, LATE, last, 1)
        refused(self, "NotKept", endless, LATE, last, 1, 0)
        refused(self, "TooMany", keeps, LATE, last + 1, 1)
        refused(self, "TooMany", ended, LATE, last + 1, 1)
        refused(self, "TooMany", endless, LATE, last + 1, 1, 0)

    def blocks(self, age):
        try:
            return len(parting(LATE, age, LATE, age + 1)[2])
        except ValueError:
            return None


if __name__ == "__main__":
    unittest.main()
