import time
import unittest
from fractions import Fraction

from helpers import Thorny, no_ages, no_letters_of, no_numbers, odd_things, refused, some_books
from linegrow.books import book_of, letters
from linegrow.modular import counts_at, length_at
from linegrow.sums import counts, length, weight
from linegrow.ties import count_tie, is_tie, length_tie, tie, unwound, weight_tie

NONE = ("", ())
GOLD = ("a", (("a", "ab"), ("b", "a")))
LINE = ("a", (("a", "ab"), ("b", "b")))
TWOS = ("aaa", (("a", "aa"),))
DYING = ("a", (("a", "bcb"), ("b", "c"), ("c", "")))
FULL = book_of("hgfedcbaabcd", [(sign, ("abcdefgh" * 2)[place:place + 6]) for place, sign in enumerate("abcdefgh")])
EIGHT = book_of("a", list(zip("abcdefgh", ["b", "c", "d", "e", "f", "g", "h", "ab"])))
OTHER = book_of("q", list(zip("qrstuvwx", ["r", "s", "t", "u", "v", "w", "x", "qqr"])))
BOOKS = [NONE, GOLD, LINE, TWOS, DYING, FULL, EIGHT, ("", GOLD[1])] + some_books(60, 71) + some_books(40, 72, 2)
LAST = 10 ** 60 - 1
MOST = 10 ** 30 - 1
SIXTY = 10 ** 60 - 1


def rank(lines):
    """How many of the lines are no sums of others, by plain clearing with fractions."""
    lines = [[Fraction(entry) for entry in line] for line in lines]
    told = 0
    for place in range(len(lines[0]) if lines else 0):
        pivots = [line for line in lines[told:] if line[place] != 0]
        if pivots:
            pivot = pivots[0]
            lines.remove(pivot)
            lines.insert(told, pivot)
            told += 1
            for number in range(told, len(lines)):
                share = lines[number][place] / pivot[place]
                lines[number] = [entry - share * above for entry, above in zip(lines[number], pivot)]
    return told


def lines_of(books, ages):
    return [sum([counts(book, age) for book in books], []) for age in range(ages)]


def led(c, numbers):
    return sum(factor * number for factor, number in zip(c, numbers))


class TestTie(unittest.TestCase):
    def held(self, books, c):
        self.assertIs(type(c), list)
        self.assertTrue(all(type(number) is int for number in c))
        size = len(c)
        self.assertLessEqual(size, sum(len(book[1]) for book in books))
        lines = lines_of(books, size + 12)
        for start in range(12):
            for place in range(len(lines[0])):
                self.assertEqual(lines[start + size][place], led(c, [line[place] for line in lines[start:start + size]]))
        # The first ones are no sums of one another, so that no list of fewer numbers is a tie.
        self.assertEqual(rank(lines[:size]), size)

    def test_known_ones(self):
        self.assertEqual(tie(GOLD), [1, 1])
        self.assertEqual(tie(LINE), [-1, 2])
        self.assertEqual(tie(TWOS), [2])
        self.assertEqual(tie(DYING), [0, 0, 0])
        self.assertEqual(tie(EIGHT), [1, 1, 0, 0, 0, 0, 0, 0])
        self.assertEqual(tie(("ab", (("a", "b"), ("b", "a")))), [1])
        self.assertEqual(tie(("a", (("a", "b"), ("b", "a")))), [1, 0])

    def test_all_counts_nought(self):
        self.assertEqual(tie(NONE), [])
        self.assertEqual(tie(("", GOLD[1])), [])
        self.assertEqual(tie(("", GOLD[1]), NONE), [])
        self.assertEqual(tie(("", GOLD[1]), ("", FULL[1])), [])

    def test_of_one_book(self):
        for book in BOOKS:
            self.held([book], tie(book))
            self.assertEqual(tie(book, None), tie(book))

    def test_of_two_books(self):
        for place, one in enumerate(BOOKS[:60]):
            for other in [BOOKS[(place * 7 + 3) % len(BOOKS)], one, GOLD, FULL]:
                self.held([one, other], tie(one, other))

    def test_of_sixteen_letters(self):
        c = tie(EIGHT, OTHER)
        self.assertEqual(len(c), 16)
        self.held([EIGHT, OTHER], c)

    def test_one_book_twice_is_tied_as_once(self):
        for book in BOOKS:
            self.assertEqual(tie(book, book), tie(book))
            self.assertEqual(tie(book, NONE), tie(book))
            self.assertEqual(tie(NONE, book), tie(book))

    def test_told_lists_are_the_askers_own(self):
        tie(GOLD).append(4)
        self.assertEqual(tie(GOLD), [1, 1])
        tie(NONE).append(4)
        self.assertEqual(tie(NONE), [])


class TestIsTie(unittest.TestCase):
    def test_told_ties(self):
        for book in BOOKS:
            self.assertIs(is_tie(tie(book), book), True)
            self.assertIs(is_tie(tie(book), book, None), True)
            self.assertIs(is_tie(tie(book, GOLD), book, GOLD), True)
            self.assertIs(is_tie(tie(book, GOLD), book), True)
            self.assertIs(is_tie(tie(book, GOLD), GOLD), True)
        self.assertIs(is_tie(tie(EIGHT, OTHER), EIGHT, OTHER), True)
        self.assertIs(is_tie(tie(EIGHT), EIGHT, OTHER), False)
        self.assertIs(is_tie(tie(OTHER), EIGHT, OTHER), False)

    def test_longer_ones(self):
        # With the tie shifted by one, and with the tie added to it.
        for book in BOOKS:
            c = tie(book)
            self.assertIs(is_tie([0] + c, book), True)
            added = [zero - one for zero, one in zip([0] + c, c + [-1])]
            self.assertIs(is_tie(added, book), True)
        self.assertIs(is_tie([1, 2], TWOS), False)
        self.assertIs(is_tie([0] * 14 + [1, 1], GOLD), True)

    def test_sixteen_and_seventeen_numbers(self):
        self.assertIs(is_tie([0] * 15 + [2], TWOS), True)
        self.assertIs(is_tie([0] * 16 + [2], TWOS), False)
        self.assertIs(is_tie([0] * 16, NONE), True)
        self.assertIs(is_tie([0] * 17, NONE), False)
        self.assertIs(is_tie([7] * 16, NONE), True)
        self.assertIs(is_tie([0] * 3 + [0] * 13, DYING), True)

    def test_spoilt_at_a_place(self):
        for book in [GOLD, LINE, TWOS, FULL, EIGHT]:
            c = tie(book)
            for place in range(len(c)):
                for change in [1, -1, 10 ** 299]:
                    spoilt = list(c)
                    spoilt[place] += change
                    self.assertIs(is_tie(spoilt, book), False)
            self.assertIs(is_tie(c[1:], book), False)
            self.assertIs(is_tie(c[:-1], book), False)
            self.assertIs(is_tie([], book), False)

    def test_dead_counts_may_be_led_by_anything(self):
        self.assertIs(is_tie([], NONE), True)
        self.assertIs(is_tie([], ("", GOLD[1])), True)
        self.assertIs(is_tie([5, -9], ("", GOLD[1])), True)
        self.assertIs(is_tie([0, 0, 8, 0], DYING), False)
        self.assertIs(is_tie([0, 0, 0, 8], DYING), True)
        self.assertIs(is_tie([0, 0, 0, 0], DYING), True)

    def test_truths_and_other_kinds(self):
        for thing in odd_things() + [(1, 1), "11", (), "", 1, 0, [1, "1"], [1, None], [[1], [1]], [1, (1,)], {0: 1, 1: 1}]:
            self.assertIs(is_tie(thing, GOLD), False)
            self.assertIs(is_tie(thing, GOLD, GOLD), False)
            self.assertIs(is_tie(thing, NONE), False)
        self.assertIs(is_tie([1, 1], GOLD), True)
        for place in range(2):
            for thing in odd_things() + [Thorny(), "1"]:
                spoilt = [1, 1]
                spoilt[place] = thing
                self.assertIs(is_tie(spoilt, GOLD), False)
                self.assertIs(is_tie(spoilt, NONE), False)

    def test_handed_lists_stay(self):
        c = [1, 1]
        is_tie(c, GOLD)
        is_tie(c, GOLD, LINE)
        self.assertEqual(c, [1, 1])


class TestTiesOfNumbers(unittest.TestCase):
    def held(self, book, numbers, c):
        size = len(c)
        self.assertIs(type(c), list)
        self.assertTrue(all(type(number) is int for number in c))
        self.assertLessEqual(size, len(tie(book)))
        for start in range(len(numbers) - size):
            self.assertEqual(numbers[start + size], led(c, numbers[start:start + size]))
        # Its table has a determinant other than 0, so that no fewer numbers lead on.
        self.assertEqual(rank([numbers[age:age + size] for age in range(size)]), size)

    def test_known_ones(self):
        self.assertEqual(length_tie(GOLD), [1, 1])
        self.assertEqual(length_tie(LINE), [-1, 2])
        self.assertEqual(length_tie(FULL), [6])
        self.assertEqual(length_tie(DYING), [0, 0, 0])
        self.assertEqual(length_tie(("a", (("a", "b"), ("b", "a")))), [1])
        self.assertEqual(length_tie(NONE), [])
        self.assertEqual(count_tie(LINE, "a"), [1])
        self.assertEqual(count_tie(LINE, "b"), [-1, 2])
        self.assertEqual(count_tie(("a", (("a", "a"), ("b", "b"))), "b"), [])
        self.assertEqual(count_tie(DYING, "a"), [0])
        self.assertEqual(count_tie(DYING, "c"), [0, 0, 0])

    def test_lengths(self):
        for book in BOOKS + [OTHER]:
            self.held(book, [length(book, age) for age in range(30)], length_tie(book))

    def test_counts(self):
        for book in BOOKS + [OTHER]:
            for place, letter in enumerate(letters(book)):
                self.held(book, [counts(book, age)[place] for age in range(30)], count_tie(book, letter))

    def test_weights(self):
        wide = [SIXTY, -SIXTY, 3, -(10 ** 59), 0, 7, 10 ** 40 + 1, -1]
        for book in BOOKS + [OTHER]:
            many = len(book[1])
            for weights in [wide[:many], wide[::-1][:many], list(range(many)), [1] * many, [-2] * many]:
                self.held(book, [weight(book, weights, age) for age in range(30)], weight_tie(book, weights))

    def test_weights_all_nought(self):
        for book in BOOKS:
            self.assertEqual(weight_tie(book, [0] * len(book[1])), [])
            self.assertEqual(weight_tie(("", book[1]), [3] * len(book[1])), [])

    def test_weights_that_fall_out(self):
        # The weights of each row come to 0.
        self.assertEqual(weight_tie(("ab", (("a", "ab"), ("b", "ab"))), [1, -1]), [])
        self.assertEqual(weight_tie(LINE, [1, 0]), [1])
        self.assertEqual(weight_tie(LINE, [10 ** 59, -1]), [-1, 2])

    def test_as_lengths_and_counts(self):
        for book in BOOKS:
            many = len(book[1])
            self.assertEqual(weight_tie(book, [1] * many), length_tie(book))
            for place, letter in enumerate(letters(book)):
                single = [int(each == place) for each in range(many)]
                self.assertEqual(weight_tie(book, single), count_tie(book, letter))

    def test_handed_weights_stay_and_told_lists_are_own(self):
        weights = [4, -9]
        weight_tie(GOLD, weights).append(3)
        self.assertEqual(weights, [4, -9])
        self.assertEqual(weight_tie(GOLD, weights), [1, 1])
        length_tie(GOLD).clear()
        self.assertEqual(length_tie(GOLD), [1, 1])

    def test_no_letter(self):
        for book in [NONE, GOLD]:
            for thing in no_letters_of(letters(book)):
                refused(self, "NoLetter", count_tie, book, thing)


class TestUnwound(unittest.TestCase):
    CASES = [
        ([1, 1], [0, 1]), ([2], [3]), ([0], [5]), ([-1, 2], [7, -4]), ([0, 0, 0], [1, 2, 3]), ([1, 0, 0], [4, 5, 6]),
        ([3, -2, 0, 10 ** 299], [-(10 ** 299), 1, 0, 9]), (list(range(16)), list(range(-8, 8))), ([1] * 16, [0] * 15 + [1]),
        ([-7] * 16, [10 ** 200 + place for place in range(16)]),
    ]

    def plain(self, c, starts, many):
        told = list(starts)
        while len(told) < many:
            told.append(led(c, told[len(told) - len(c):]))
        return told[:many]

    def test_places_written_out(self):
        for c, starts in self.CASES:
            numbers = self.plain(c, starts, 60)
            for place, value in enumerate(numbers):
                for number in [1, 2, 3, 10, 97, 10 ** 9 + 7, MOST]:
                    self.assertEqual(unwound(c, starts, place, number), value % number)

    def test_empty_lists(self):
        for age in [0, 1, 16, 300, LAST]:
            for number in [1, 2, MOST]:
                self.assertEqual(unwound([], [], age, number), 0)

    def test_sixty_figures(self):
        for number in [1, 2, 97, MOST]:
            self.assertEqual(unwound([2], [3], LAST, number), 3 * pow(2, LAST, number) % number)
            self.assertEqual(unwound([-1, 2], [7, 10], LAST, number), (7 + 3 * LAST) % number)
            self.assertEqual(unwound([1, 0, 0], [4, 5, 6], LAST, number), [4, 5, 6][LAST % 3] % number)
            self.assertEqual(unwound([0, 0], [4, 5], LAST, number), 0)

    def test_as_the_lengths_and_counts_of_books(self):
        for book in [GOLD, LINE, FULL, EIGHT, OTHER] + BOOKS[8:30]:
            c = length_tie(book)
            starts = [length(book, age) for age in range(len(c))]
            for age in [0, 5, 300, 10 ** 59 + 11, LAST]:
                self.assertEqual(unwound(c, starts, age, MOST), length_at(book, age, MOST))
        c = tie(EIGHT, OTHER)
        for book in [EIGHT, OTHER]:
            for place in range(8):
                starts = [counts(book, age)[place] for age in range(16)]
                self.assertEqual(unwound(c, starts, LAST, MOST), counts_at(book, LAST, MOST)[place])

    def test_they_come_at_once(self):
        begin = time.perf_counter()
        unwound(list(range(1, 17)), list(range(16)), LAST, MOST)
        self.assertLess(time.perf_counter() - begin, 5)

    def test_no_number_as_c(self):
        for thing in odd_things() + [(1, 1), "11", (), "", 1, 0, [1, True], [1, "1"], [None, 1], [[1], 1], [1] * 17]:
            refused(self, "NoNumber", unwound, thing, [1, 1], 5, 7)
            refused(self, "NoNumber", unwound, thing, thing, 5, 7)
        unwound([1] * 16, [1] * 16, 5, 7)
        refused(self, "NoNumber", unwound, [1] * 17, [1] * 17, 5, 7)

    def test_no_number_as_starts(self):
        for thing in odd_things() + [
            (1, 1), "11", (), "", 1, 0, [], [1], [1, 1, 1], [1, True], [1, "1"], [None, 1], [[1], 1],
        ]:
            refused(self, "NoNumber", unwound, [1, 1], thing, 5, 7)
        for thing in [None, (), "", [1], [0], 0]:
            refused(self, "NoNumber", unwound, [], thing, 5, 7)

    def test_no_age_and_no_number(self):
        for c in [[], [1, 1]]:
            for thing in no_ages(LAST):
                refused(self, "NoAge", unwound, c, c, thing, 7)
            for thing in no_numbers(1, MOST):
                refused(self, "NoNumber", unwound, c, c, 7, thing)

    def test_their_order(self):
        refused(self, "NoNumber", unwound, None, None, -1, 0)
        refused(self, "NoNumber", unwound, [1], [], -1, 0)
        refused(self, "NoAge", unwound, [1], [1], -1, 0)
        refused(self, "NoAge", unwound, [], [], 10 ** 60, None)
        refused(self, "NoNumber", unwound, [1], [1], 0, 0)

    def test_handed_lists_stay(self):
        c, starts = [1, 1], [0, 1]
        unwound(c, starts, 100, 7)
        self.assertEqual((c, starts), ([1, 1], [0, 1]))
        unwound(c, c, 100, 7)
        self.assertEqual(c, [1, 1])


if __name__ == "__main__":
    unittest.main()
