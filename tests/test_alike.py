import functools
import unittest
from fractions import Fraction

from helpers import no_numbers, refused, some_books
from linegrow.alike import counts_alike, lag, lengths_alike, settled, weights_alike
from linegrow.books import book_of, letters
from linegrow.changed import called, later, mirrored
from linegrow.errors import TooLong
from linegrow.sums import counts, length, weight
from linegrow.ties import is_tie, tie

NONE = ("", ())
GOLD = ("a", (("a", "ab"), ("b", "a")))
LINE = ("a", (("a", "ab"), ("b", "b")))
STAY = ("x", (("x", "x"),))
EIGHT = book_of("a", list(zip("abcdefgh", ["b", "c", "d", "e", "f", "g", "h", "ab"])))
OTHER = book_of("q", list(zip("qrstuvwx", ["r", "s", "t", "u", "v", "w", "x", "qqr"])))
SMALL = some_books(60, 81, 2, 4) + some_books(60, 82, 1, 5)
BOOKS = [NONE, GOLD, LINE, STAY, EIGHT, OTHER, ("", GOLD[1])] + SMALL
AGES = range(60)


def dying_line(many):
    """One letter at a time, and none at all from age many on."""
    signs = "abcdefgh"[:many]
    return book_of("a", [(sign, after) for sign, after in zip(signs, list(signs[1:]) + [""])])


@functools.cache
def long_lengths(book):
    """The lengths at the first hundred ages, by an own walk over the letters' lengths."""
    told = []
    sizes = dict.fromkeys(letters(book), 1)
    for age in range(100):
        told.append(sum(sizes[sign] for sign in book[0]))
        sizes = {letter: sum(sizes[sign] for sign in text) for letter, text in book[1]}
    return told


def lengths(book):
    return long_lengths(book)[:60]


def pairs():
    for place, one in enumerate(BOOKS):
        yield one, one
        yield one, called(one, "zyxwvuts"[:len(one[1])])
        yield one, mirrored(one)
        for step in range(1, 8):
            yield one, BOOKS[(place + step * step) % len(BOOKS)]


def first_parting(ones, others):
    return next((age for age, (mine, yours) in enumerate(zip(ones, others)) if mine != yours), None)


class TestLengthsAlike(unittest.TestCase):
    def test_known_ones(self):
        self.assertEqual(lengths_alike(GOLD, GOLD), ("alike", [1, 1]))
        self.assertEqual(lengths_alike(GOLD, called(GOLD, "xy")), ("alike", [1, 1]))
        self.assertEqual(lengths_alike(NONE, NONE), ("alike", []))
        self.assertEqual(lengths_alike(NONE, ("", GOLD[1])), ("alike", []))
        self.assertEqual(lengths_alike(GOLD, LINE), ("part", 3))
        self.assertEqual(lengths_alike(GOLD, NONE), ("part", 0))
        # Alike in length, not in letters; one needs three numbers, the other one.
        book = ("a", (("a", "b"), ("b", "c"), ("c", "a")))
        self.assertEqual(lengths_alike(STAY, book), ("alike", [1, 0, 0]))

    def test_against_lengths(self):
        seen = []
        for one, other in pairs():
            age = first_parting(lengths(one), lengths(other))
            told = lengths_alike(one, other)
            self.assertEqual(told, ("alike", tie(one, other)) if age is None else ("part", age))
            self.assertTrue(age is not None or is_tie(told[1], one, other))
            seen.append(age)
        self.assertGreater(seen.count(None), 50)
        self.assertGreater(len(set(seen)), 4)

    def test_as_late_as_can_be(self):
        for many in range(1, 9):
            book = dying_line(many)
            self.assertEqual(lengths_alike(book, STAY), ("part", many))
            self.assertEqual(lengths_alike(STAY, book), ("part", many))

    def test_told_lists_are_the_askers_own(self):
        lengths_alike(GOLD, GOLD)[1].append(1)
        self.assertEqual(lengths_alike(GOLD, GOLD), ("alike", [1, 1]))


class TestWeightsAlike(unittest.TestCase):
    def latest(self, one, other):
        """Weights by which the two are alike at all ages of both their letters but the last."""
        many = len(one[1]) + len(other[1])
        lines = [[Fraction(entry) for entry in counts(one, age) + counts(other, age)] for age in range(many)]
        lines = [line + [Fraction(int(age == many - 1))] for age, line in enumerate(lines)]
        for place in range(many):
            pivot = next(line for line in lines[place:] if line[place] != 0)
            lines.remove(pivot)
            lines.insert(place, [entry / pivot[place] for entry in pivot])
            for number in range(many):
                if number != place:
                    share = lines[number][place]
                    lines[number] = [entry - share * above for entry, above in zip(lines[number], lines[place])]
        told = [line[-1] for line in lines]
        scale = 1
        for number in told:
            scale *= (number * scale).denominator
        told = [int(number * scale) for number in told]
        return told[:len(one[1])], [-number for number in told[len(one[1]):]]

    def test_known_ones(self):
        self.assertEqual(weights_alike(GOLD, [1, 0], GOLD, [0, 1]), ("part", 0))
        self.assertEqual(weights_alike(GOLD, [0, 1], GOLD, [0, 1]), ("alike", [1, 1]))
        self.assertEqual(weights_alike(GOLD, [0, 0], LINE, [0, 0]), ("alike", tie(GOLD, LINE)))
        self.assertEqual(weights_alike(GOLD, [0, 0], NONE, []), ("alike", [1, 1]))
        self.assertEqual(weights_alike(STAY, [-5], LINE, [-5, 0]), ("alike", tie(STAY, LINE)))
        self.assertEqual(weights_alike(STAY, [5], LINE, [5, 1]), ("part", 1))
        wide = 10 ** 60 - 1
        self.assertEqual(weights_alike(LINE, [wide, -wide], LINE, [wide, -wide]), ("alike", [-1, 2]))
        self.assertEqual(weights_alike(LINE, [wide, -wide], LINE, [wide, 1 - wide]), ("part", 1))

    def test_against_weights(self):
        for one, other in pairs():
            for kinds in [[3, -2, 0, 5, 1, -1, 8, 2], [1] * 8, [0] * 8, [-(10 ** 59), 1, 10 ** 59, 0, 0, 1, 1, 9]]:
                mine, yours = kinds[:len(one[1])], kinds[:len(other[1])]
                ones = [weight(one, mine, age) for age in range(20)]
                others = [weight(other, yours, age) for age in range(20)]
                age = first_parting(ones, others)
                told = ("alike", tie(one, other)) if age is None else ("part", age)
                self.assertEqual(weights_alike(one, mine, other, yours), told)

    def test_as_late_as_can_be(self):
        for one, other in [(GOLD, LINE), (EIGHT, STAY), (EIGHT, OTHER), (dying_line(8), OTHER)]:
            many = len(one[1]) + len(other[1])
            mine, yours = self.latest(one, other)
            self.assertEqual(weights_alike(one, mine, other, yours), ("part", many - 1))

    def test_handed_weights_stay(self):
        mine, yours = [1, 2], [2, 1]
        weights_alike(GOLD, mine, LINE, yours)
        self.assertEqual((mine, yours), ([1, 2], [2, 1]))


class TestCountsAlike(unittest.TestCase):
    def plain(self, one, other):
        signs = sorted(set(letters(one)) | set(letters(other)))
        for age in range(20):
            mine = dict(zip(letters(one), counts(one, age)))
            yours = dict(zip(letters(other), counts(other, age)))
            for sign in signs:
                if mine.get(sign, 0) != yours.get(sign, 0):
                    return ("part", age, sign)
        return ("alike", tie(one, other))

    def test_known_ones(self):
        self.assertEqual(counts_alike(GOLD, mirrored(GOLD)), ("alike", [1, 1]))
        self.assertEqual(counts_alike(GOLD, LINE), ("part", 2, "a"))
        self.assertEqual(counts_alike(GOLD, called(GOLD, "xy")), ("part", 0, "a"))
        self.assertEqual(counts_alike(NONE, NONE), ("alike", []))
        self.assertEqual(counts_alike(("ba", LINE[1]), ("ab", LINE[1])), ("alike", [-1, 2]))

    def test_a_letter_that_one_alone_has(self):
        wide = book_of("a", [("a", "ab"), ("b", "a"), ("c", "c")])
        self.assertEqual(counts_alike(GOLD, wide), ("alike", [1, 1]))
        self.assertEqual(counts_alike(wide, GOLD), ("alike", [1, 1]))
        self.assertEqual(counts_alike(("ac", wide[1]), GOLD), ("part", 0, "c"))
        self.assertEqual(counts_alike(GOLD, ("ac", wide[1])), ("part", 0, "c"))
        late = book_of("a", [("a", "b"), ("b", "c"), ("c", "z"), ("z", "z")])
        self.assertEqual(counts_alike(late, book_of("a", [("a", "b"), ("b", "c"), ("c", "")])), ("part", 3, "z"))

    def test_the_least_letter(self):
        self.assertEqual(counts_alike(("cb", (("b", "b"), ("c", "c"))), ("", (("a", "a"),))), ("part", 0, "b"))
        one = book_of("m", [("m", "zx"), ("x", ""), ("z", "")])
        two = book_of("m", [("m", "yx"), ("x", ""), ("y", "")])
        self.assertEqual(counts_alike(one, two), ("part", 1, "y"))

    def test_against_counts(self):
        for one, other in pairs():
            self.assertEqual(counts_alike(one, other), self.plain(one, other))


class TestSettled(unittest.TestCase):
    def test_known_ones(self):
        self.assertEqual(settled(GOLD, GOLD), ("alike", 0))
        self.assertEqual(settled(NONE, NONE), ("alike", 0))
        self.assertEqual(settled(GOLD, LINE), ("parted",))
        for many in range(1, 9):
            self.assertEqual(settled(dying_line(many), NONE), ("alike", many))
            self.assertEqual(settled(NONE, dying_line(many)), ("alike", many))
            self.assertEqual(settled(dying_line(many), dying_line(8)), ("alike", 8 if many < 8 else 0))
            self.assertEqual(settled(dying_line(many), STAY), ("parted",))

    def test_unlike_between_alike_ones(self):
        # 1, 1, 2, 1, 1, .. and 1, 1, 1, ..
        book = book_of("a", [("a", "b"), ("b", "cd"), ("c", "e"), ("d", ""), ("e", "e")])
        self.assertEqual(lengths_alike(book, STAY), ("part", 2))
        self.assertEqual(settled(book, STAY), ("alike", 3))

    def test_parting_again_and_again(self):
        # 1, 2, 1, 2, .. and 1, 1, 1, ..
        book = ("a", (("a", "bc"), ("b", "a"), ("c", "")))
        self.assertEqual(settled(book, STAY), ("parted",))
        # Alike for eight ages out of nine.
        ring = book_of("a", list(zip("abcdefgh", ["b", "c", "d", "e", "f", "g", "ah", ""])))
        self.assertEqual([length(ring, age) for age in range(9)], [1, 1, 1, 1, 1, 1, 1, 2, 1])
        self.assertEqual(settled(ring, STAY), ("parted",))

    def test_against_lengths(self):
        seen = []
        for one, other in pairs():
            ones, others = lengths(one), lengths(other)
            unlike = [age for age in AGES if ones[age] != others[age]]
            many = len(one[1]) + len(other[1])
            if unlike and unlike[-1] >= many:
                self.assertEqual(settled(one, other), ("parted",))
                for age in range(0, 60 - many):
                    self.assertTrue(any(ones[each] != others[each] for each in range(age, age + many)))
            else:
                told = unlike[-1] + 1 if unlike else 0
                seen.append(told)
                self.assertEqual(settled(one, other), ("alike", told))
        self.assertGreater(len(set(seen)), 3)


class TestLag(unittest.TestCase):
    def test_known_ones(self):
        self.assertEqual(lag(GOLD, GOLD, 0), 0)
        self.assertEqual(lag(GOLD, GOLD, 40), 0)
        self.assertEqual(lag(GOLD, later(GOLD, 3), 40), 3)
        self.assertEqual(lag(GOLD, later(GOLD, 3), 3), 3)
        self.assertIsNone(lag(GOLD, later(GOLD, 3), 2))
        self.assertIsNone(lag(later(GOLD, 3), GOLD, 40))
        self.assertIsNone(lag(GOLD, LINE, 40))
        self.assertEqual(lag(NONE, NONE, 0), 0)
        self.assertEqual(lag(NONE, ("", GOLD[1]), 5), 0)
        self.assertEqual(lag(dying_line(8), NONE, 40), 8)
        self.assertIsNone(lag(dying_line(8), NONE, 7))

    def test_up_to_forty(self):
        # One letter more every seven ages: all its rows up to age 76 can be first rows.
        slow = book_of("a", list(zip("abcdefgy", ["b", "c", "d", "e", "f", "g", "ay", "y"])))
        for many in [0, 1, 6, 7, 39, 40]:
            other = later(slow, many)
            self.assertEqual(lag(slow, other, 40), many)
            self.assertEqual(lag(slow, other, many), many)
            if many:
                self.assertIsNone(lag(slow, other, many - 1))
        self.assertIsNone(lag(slow, later(slow, 41), 40))

    def test_the_least_of_several(self):
        wheel = book_of("a", [("a", "b"), ("b", "c"), ("c", "d"), ("d", "e"), ("e", "ax"), ("x", "")])
        self.assertEqual([length(wheel, age) for age in range(7)], [1, 1, 1, 1, 1, 2, 1])
        for many in range(1, 12):
            least = many if many < 6 else (many - 1) % 5 + 1
            self.assertEqual(lag(wheel, later(wheel, many), 40), least)
            self.assertIsNone(lag(wheel, later(wheel, many), least - 1))

    def test_against_lengths(self):
        told = set()
        for one, other in pairs():
            ones = long_lengths(one)
            others = lengths(other)
            fitting = [many for many in range(41) if ones[many:many + 60] == others]
            for most in [0, 1, 5, 40]:
                answer = min([many for many in fitting if many <= most], default=None)
                told.add(answer)
                self.assertEqual(lag(one, other, most), answer)
        self.assertIn(None, told)

    def test_later_books_lag(self):
        for book in BOOKS:
            ones = long_lengths(book)
            for age in range(8):
                try:
                    other = later(book, age)
                except TooLong:
                    continue
                least = min(many for many in range(age + 1) if ones[many:many + 60] == lengths(other))
                self.assertEqual(lag(book, other, 40), least)
                self.assertEqual(lag(book, other, least), least)

    def test_no_number(self):
        for one, other in [(NONE, NONE), (GOLD, LINE)]:
            for thing in no_numbers(0, 40):
                refused(self, "NoNumber", lag, one, other, thing)
            lag(one, other, 40)
            refused(self, "NoNumber", lag, one, other, 41)


if __name__ == "__main__":
    unittest.main()
