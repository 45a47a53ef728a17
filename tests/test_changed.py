import unittest

from helpers import later_letters, no_ages, no_numbers, odd_things, refused, some_books, written
from linegrow.books import is_book, letters
from linegrow.changed import beside, called, fast, later, mirrored, shed, thinned
from linegrow.rows import rows
from linegrow.sums import counts, length

NONE = ("", ())
GOLD = ("a", (("a", "ab"), ("b", "a")))
SWAP = ("ab", (("a", "b"), ("b", "a")))
DYING = ("dab", (("a", "bcb"), ("b", "c"), ("c", ""), ("d", "")))
GAPS = ("dacab", (("a", "cabd"), ("b", "dba"), ("c", "dd"), ("d", "")))
LOOSE = ("ax", (("a", "ab"), ("b", "a"), ("c", "ab"), ("x", "y"), ("y", ""), ("z", "zz")))
# 12, 72, 432, 2592 letters at ages 0 to 3, and none from age 4 on but the one e.
BURST = ("aaaaaaaaaaae", (("a", "bbbbbb"), ("b", "cccccc"), ("c", "dddddd"), ("d", ""), ("e", "e")))
# At each age one x, and ahead of it tens of thousands of letters on their way to death.
TRAIL = (
    "x",
    (("a", "bbbbbb"), ("b", "cccccc"), ("c", "dddddd"), ("d", "eeeeee"), ("e", "ffffff"), ("f", ""), ("x", "aaaaax")),
)
BOOKS = [NONE, GOLD, SWAP, DYING, GAPS, LOOSE, ("", LOOSE[1])] + some_books(80, 51) + some_books(80, 52, 2)


def short_rows(book):
    told = []
    for age in range(7):
        text = written(*book, age)
        if len(text) > 2000:
            break
        told.append(text)
    return told


def dying_letters(book):
    return {letter for letter in letters(book) if written(letter, book[1], len(book[1])) == ""}


class Case(unittest.TestCase):
    def right(self, book):
        self.assertIs(is_book(book), True, book)
        return book


class TestThinned(Case):
    def test_known_ones(self):
        self.assertEqual(thinned(DYING), ("", ()))
        self.assertEqual(thinned(GAPS), ("aab", (("a", "ab"), ("b", "ba"))))
        self.assertEqual(thinned(LOOSE), ("a", (("a", "ab"), ("b", "a"), ("c", "ab"), ("z", "zz"))))
        self.assertEqual(thinned(GOLD), GOLD)
        self.assertEqual(thinned(NONE), NONE)

    def test_against_rows_written_out(self):
        for book in BOOKS:
            web = later_letters(book)
            dying = {letter for letter in web if not any(each in web[each] for each in web[letter] | {letter})}
            told = self.right(thinned(book))
            self.assertEqual(letters(told), "".join(sorted(set(letters(book)) - dying)))
            for age, text in enumerate(short_rows(book)):
                self.assertEqual(written(*told, age), "".join(sign for sign in text if sign not in dying))

    def test_nothing_dies_any_more(self):
        for book in BOOKS:
            self.assertEqual(thinned(thinned(book)), thinned(book))
            self.assertTrue(all(rule[1] for rule in thinned(book)[1]))


class TestShed(Case):
    def test_known_ones(self):
        self.assertEqual(shed(LOOSE), ("ax", (("a", "ab"), ("b", "a"), ("x", "y"), ("y", ""))))
        self.assertEqual(shed(("", LOOSE[1])), NONE)
        self.assertEqual(shed(GOLD), GOLD)
        self.assertEqual(shed(NONE), NONE)

    def test_against_rows_written_out(self):
        for book in BOOKS:
            told = self.right(shed(book))
            come = set("".join(short_rows(book)))
            self.assertLessEqual(come, set(letters(told)))
            for age, text in enumerate(short_rows(book)):
                self.assertEqual(written(*told, age), text)
            web = later_letters(book)
            reach = set(book[0]).union(*[web[letter] for letter in book[0]])
            self.assertEqual(letters(told), "".join(sorted(reach)))


class TestLater(Case):
    def test_against_rows_written_out(self):
        for book in BOOKS:
            for age, text in enumerate(short_rows(book)):
                if len(text) <= 12:
                    self.assertEqual(self.right(later(book, age)), (text, book[1]))
                else:
                    refused(self, "TooLong", later, book, age)

    def test_just_twelve_and_thirteen(self):
        book = ("a", (("a", "ab"), ("b", "b"), ("c", "ac")))
        self.assertEqual(later(book, 11), ("a" + "b" * 11, book[1]))
        refused(self, "TooLong", later, book, 12)

    def test_later_rows_are_its_rows(self):
        told = later(GOLD, 4)
        self.assertEqual(told, ("abaababa", GOLD[1]))
        self.assertEqual(rows(told, 3), rows(GOLD, 7)[4:])

    def test_where_rows_ahead_are_longer(self):
        self.assertEqual(later(BURST, 0), BURST)
        for age in [1, 2, 3]:
            refused(self, "TooLong", later, BURST, age)
        for age in [4, 5, 300]:
            self.assertEqual(later(BURST, age), ("e", BURST[1]))

    def test_where_rows_ahead_cannot_be_written_down(self):
        rules = (("a", "bbbbbb"), ("b", "cccccc"), ("c", "dddddd"), ("d", "eeeeee"), ("e", "ffffff"), ("f", ""), ("y", "y"))
        book = ("aaaaaaaaaaay", rules)
        self.assertGreater(length(book, 5), 80000)
        for age in [6, 7, 300]:
            self.assertEqual(later(book, age), ("y", rules))
        refused(self, "TooLong", later, book, 5)
        self.assertGreater(length(TRAIL, 300), 40000)
        for age in [2, 100, 300]:
            refused(self, "TooLong", later, TRAIL, age)

    def test_where_long_rows_come_again_and_again(self):
        bursting = (("a", "bbbbbb"), ("b", "cccccc"), ("c", "dddddd"), ("d", ""))
        book = ("p", bursting + (("p", "qaaaaa"), ("q", "r"), ("r", "s"), ("s", "p")))
        self.assertEqual([length(book, age) for age in (296, 297, 298, 299, 300)], [1081, 6, 31, 181, 1081])
        self.assertEqual(later(book, 297), ("qaaaaa", book[1]))
        refused(self, "TooLong", later, book, 298)
        refused(self, "TooLong", later, book, 300)

    def test_great_ages(self):
        self.assertEqual(later(SWAP, 300), ("ab", SWAP[1]))
        self.assertEqual(later(SWAP, 299), ("ba", SWAP[1]))
        refused(self, "TooLong", later, GOLD, 300)

    def test_no_age_goes_ahead(self):
        for book in [NONE, SWAP, GOLD, BURST]:
            for thing in no_ages():
                refused(self, "NoAge", later, book, thing)


class TestFast(Case):
    def test_against_rows_written_out(self):
        for book in BOOKS:
            for many in range(1, 9):
                words = [(letter, written(letter, book[1], many)) for letter in letters(book)]
                if any(len(text) > 6 for letter, text in words):
                    refused(self, "TooLong", fast, book, many)
                    break
                self.assertEqual(self.right(fast(book, many)), (book[0], tuple(words)))

    def test_by_one_and_by_eight(self):
        for book in BOOKS:
            self.assertEqual(fast(book, 1), book)
        line = ("a", (("a", "ba"), ("b", "")))
        self.assertEqual(fast(line, 8), line)
        self.assertEqual(fast(SWAP, 8), ("ab", (("a", "a"), ("b", "b"))))
        self.assertEqual(fast(SWAP, 7), SWAP)

    def test_its_rows_are_every_so_many(self):
        told = fast(GOLD, 3)
        self.assertEqual(told, ("a", (("a", "abaab"), ("b", "aba"))))
        self.assertEqual(rows(told, 3), rows(GOLD, 9)[::3])

    def test_six_and_seven_letters(self):
        book = ("", (("a", "abbb"), ("b", "c"), ("c", "")))
        refused(self, "TooLong", fast, book, 2)
        self.assertEqual(len(written("a", book[1], 2)), 7)
        self.assertEqual(fast(("", (("a", "bb"), ("b", "aaa"))), 2), ("", (("a", "aaaaaa"), ("b", "bbbbbb"))))
        six = ("", (("a", "abbbbb"), ("b", "")))
        self.assertEqual(fast(six, 5), six)
        grown = ("", (("a", "acb"), ("b", "bc"), ("c", "c")))
        self.assertEqual(fast(grown, 2), ("", (("a", "acbcbc"), ("b", "bcc"), ("c", "c"))))
        refused(self, "TooLong", fast, grown, 3)

    def test_where_rows_ahead_are_longer(self):
        rules = (("a", "bbbbbb"), ("b", "cccccc"), ("c", "dddddd"), ("d", ""), ("e", "e"))
        refused(self, "TooLong", fast, ("", rules), 2)
        refused(self, "TooLong", fast, ("", rules), 3)
        self.assertEqual(fast(("", rules), 4), ("", (("a", ""), ("b", ""), ("c", ""), ("d", ""), ("e", "e"))))
        self.assertEqual(fast(("", rules), 8), fast(("", rules), 4))
        names = "abcdefg"
        tower = tuple((sign, after * 6) for sign, after in zip(names, names[1:])) + (("g", ""), ("h", "h"))
        self.assertEqual(length(("a", tower), 6), 6 ** 6)
        self.assertEqual(fast(("hg", tower), 7)[1], tuple((sign, "") for sign in names) + (("h", "h"),))
        refused(self, "TooLong", fast, ("hg", tower), 6)

    def test_a_letter_that_no_row_has_counts_too(self):
        refused(self, "TooLong", fast, ("a", (("a", "a"), ("b", "bbb"))), 2)

    def test_no_number(self):
        for book in [NONE, SWAP, GOLD]:
            for thing in no_numbers(1, 8) + [0, 9, True, "1"]:
                refused(self, "NoNumber", fast, book, thing)
        refused(self, "TooLong", fast, GOLD, 8)


class TestCalled(Case):
    def test_known_ones(self):
        self.assertEqual(called(GOLD, "xy"), ("x", (("x", "xy"), ("y", "x"))))
        self.assertEqual(called(GOLD, "ba"), ("b", (("a", "b"), ("b", "ba"))))
        self.assertEqual(called(GOLD, "ab"), GOLD)
        self.assertEqual(called(NONE, ""), NONE)
        self.assertEqual(called(("bab", (("a", "b"), ("b", ""))), "za"), ("aza", (("a", ""), ("z", "a"))))

    def test_against_rows_written_out(self):
        for book in BOOKS:
            names = "zqbamkcx"[:len(book[1])]
            told = self.right(called(book, names))
            given = dict(zip(letters(book), names))
            for age, text in enumerate(short_rows(book)):
                self.assertEqual(written(*told, age), "".join(given[sign] for sign in text))
            back = "".join(old for new, old in sorted((new, old) for old, new in given.items()))
            self.assertEqual(called(told, back), book)

    def test_no_letter(self):
        wrong = odd_things() + [
            "", "x", "xyz", "abc", "xx", "aa", "xY", "x ", "x1", "x.", "x\n", "x\u00e9", 0, 2, [], ["x", "y"], ("x", "y"),
            "xyx", "abab", "a" * 1000,
        ]
        for thing in wrong:
            refused(self, "NoLetter", called, GOLD, thing)
        for thing in ["a", " ", None, [], (), 0]:
            refused(self, "NoLetter", called, NONE, thing)


class TestMirrored(Case):
    def test_known_ones(self):
        self.assertEqual(mirrored(GAPS), ("bacad", (("a", "dbac"), ("b", "abd"), ("c", "dd"), ("d", ""))))
        self.assertEqual(mirrored(NONE), NONE)

    def test_against_rows_written_out(self):
        for book in BOOKS:
            told = self.right(mirrored(book))
            self.assertEqual(mirrored(told), book)
            for age, text in enumerate(short_rows(book)):
                self.assertEqual(written(*told, age), text[::-1])


class TestBeside(Case):
    def test_known_ones(self):
        other = ("cbc", (("b", "a"), ("c", "ca"), ("a", "ab")))
        other = (other[0], tuple(sorted(other[1])))
        self.assertEqual(beside(GOLD, other), ("acbc", (("a", "ab"), ("b", "a"), ("c", "ca"))))
        self.assertEqual(beside(other, GOLD), ("cbca", (("a", "ab"), ("b", "a"), ("c", "ca"))))
        self.assertEqual(beside(NONE, GOLD), GOLD)
        self.assertEqual(beside(GOLD, NONE), GOLD)
        self.assertEqual(beside(NONE, NONE), NONE)
        self.assertEqual(beside(GOLD, GOLD), ("aa", GOLD[1]))
        low = ("m", (("m", "m"),))
        self.assertEqual(beside(("z", (("z", ""),)), low), ("zm", (("m", "m"), ("z", ""))))

    def test_against_rows_written_out(self):
        for one in BOOKS[:30]:
            for other in BOOKS[:30]:
                first = one[0] + other[0]
                rules = {**dict(one[1]), **dict(other[1])}
                alike = all(dict(one[1]).get(letter, text) == text for letter, text in other[1])
                if alike and len(first) <= 12 and len(rules) <= 8:
                    told = self.right(beside(one, other))
                    for age in range(4):
                        self.assertEqual(written(*told, age), written(*one, age) + written(*other, age))
                else:
                    refused(self, "NoBook", beside, one, other)

    def test_unlike_words(self):
        refused(self, "NoBook", beside, GOLD, ("", (("a", "ab"), ("b", "b"))))
        refused(self, "NoBook", beside, GOLD, ("", (("a", ""),)))
        refused(self, "NoBook", beside, SWAP, GOLD)

    def test_eight_and_nine_letters(self):
        one = ("", tuple((letter, "") for letter in "abcde"))
        self.assertEqual(letters(beside(one, ("", tuple((letter, "") for letter in "defgh")))), "abcdefgh")
        refused(self, "NoBook", beside, one, ("", tuple((letter, "") for letter in "defghi")))

    def test_twelve_and_thirteen_in_the_first_row(self):
        one = ("ab" * 3, SWAP[1])
        self.assertEqual(beside(one, one), ("ab" * 6, SWAP[1]))
        refused(self, "NoBook", beside, one, ("ab" * 3 + "a", SWAP[1]))
        refused(self, "NoBook", beside, ("ab" * 3 + "a", SWAP[1]), one)


class TestKinds(Case):
    def test_all_tell_books(self):
        for told in [thinned(GAPS), shed(GAPS), later(GAPS, 0), fast(GAPS, 1), called(GAPS, "pqrs"), mirrored(GAPS)]:
            self.right(told)
            self.assertIs(type(told[1]), tuple)
            self.assertTrue(all(type(rule) is tuple for rule in told[1]))

    def test_dying_letters_by_the_rows(self):
        for book in [DYING, GAPS, LOOSE, SWAP]:
            self.assertEqual(set(letters(book)) - set(letters(thinned(book))), dying_letters(book))

    def test_counts_go_along(self):
        self.assertEqual(sum(counts(thinned(GAPS), 300)), sum(counts(GAPS, 300)[:2]))


if __name__ == "__main__":
    unittest.main()
