import random
import time
import unittest

from helpers import Thorny, later_letters, no_ages, odd_things, refused, some_books, written
from linegrow.books import book_of, letters
from linegrow.changed import called
from linegrow.parting import parting, shown, twins
from linegrow.places import letter_at, stretch
from linegrow.sums import length

NONE = ("", ())
GOLD = ("a", (("a", "ab"), ("b", "a")))
LINE = ("a", (("a", "ab"), ("b", "b")))
GAPS = book_of("dacab", [("a", "cabd"), ("b", "dba"), ("c", "dd"), ("d", "")])
# As GAPS but for the word of b, so that only c and d are twins of both.
GAPS_TOO = book_of("dacab", [("a", "cabd"), ("b", "dbac"), ("c", "dd"), ("d", "")])
MORSE = ("a", (("a", "ab"), ("b", "ba")))


def related(chance, book):
    """A book much like the handed one: its first row or some words changed a little."""
    signs = letters(book)
    rules = []
    for letter, text in book[1]:
        if chance.random() < 0.25 and len(text) < 4:
            place = chance.randint(0, len(text))
            text = text[:place] + chance.choice(signs) + text[place:]
        elif chance.random() < 0.1:
            text = text[1:]
        rules.append((letter, text))
    first = book[0]
    if chance.random() < 0.3:
        first = (first + chance.choice(signs))[-12:]
    return book_of(first, rules)


def some_pairs(many, seed):
    chance = random.Random(seed)
    told = []
    for book in some_books(many, seed, 2, 4) + some_books(many, seed + 1, 3, 3):
        told += [(book, book), (book, related(chance, book)), (related(chance, book), book)]
    return told


PAIRS = some_pairs(25, 91) + [(GAPS, GAPS_TOO), (GOLD, LINE), (GOLD, MORSE), (GAPS, GAPS), (NONE, GOLD), (NONE, NONE)]


def plain_twins(one, other):
    web = later_letters(one)
    same = {letter for letter, text in one[1] if (letter, text) in other[1]}
    return "".join(letter for letter in letters(one) if letter in same and web[letter] <= same)


def lines(book, age):
    """For each place the letters from the first row on of which it came, each with its number among its row's letters."""
    told = [[(letter, place)] for place, letter in enumerate(book[0])]
    for step in range(age):
        grown = [line + [sign] for line in told for sign in dict(book[1])[line[-1][0]]]
        told = [line[:-1] + [(line[-1], place)] for place, line in enumerate(grown)]
    return told


def block_at(rows, place, letter, many, twinned):
    """Whether (letter, many) is a block at the place of two rows of lines, read from the point itself."""
    for row in rows:
        if not 0 <= place < len(row) or not 0 <= many < len(row[place]):
            return False
        spot = row[place][len(row[place]) - 1 - many]
        if spot[0] != letter or place > 0 and row[place - 1][len(row[place]) - 1 - many] == spot:
            return False
    return many == 0 or letter in twinned


def size(rows, place, many):
    spot = len(rows[0][place]) - 1 - many
    return len([line for line in rows[0] if line[spot] == rows[0][place][spot]])


def plain_parting(one, age, other, second):
    rows = [lines(one, age), lines(other, second)]
    twinned = plain_twins(one, other)
    blocks = []
    place = 0
    while True:
        told = [
            (letter, many) for many in range(min(age, second), -1, -1) for letter in letters(one)
            if block_at(rows, place, letter, many, twinned)
        ]
        if not told:
            break
        blocks.append(told[0])
        place += size(rows, place, told[0][1])
    ended = [place == len(row) for row in rows]
    name = {(True, True): "alike", (True, False): "first", (False, True): "second", (False, False): "part"}[tuple(ended)]
    return (name, place, blocks)


def plain_shown(one, age, other, second, blocks):
    rows = [lines(one, age), lines(other, second)]
    twinned = plain_twins(one, other)
    place = 0
    for letter, many in blocks:
        if not block_at(rows, place, letter, many, twinned):
            return None
        place += size(rows, place, many)
    return place


def each_case():
    """Pairs of books with ages at which both rows are short."""
    for one, other in PAIRS:
        for age in range(5):
            for second in [age, age + 1, max(age - 2, 0)]:
                if len(written(*one, age)) <= 40 and len(written(*other, second)) <= 40:
                    yield one, age, other, second


class TestTwins(unittest.TestCase):
    def test_one_book_twice(self):
        for one, other in PAIRS:
            self.assertEqual(twins(one, one), letters(one))
            self.assertEqual(twins(one, ("", one[1])), letters(one))

    def test_some_words_alike(self):
        self.assertEqual(twins(GAPS, GAPS_TOO), "cd")
        self.assertEqual(twins(GOLD, LINE), "")
        self.assertEqual(twins(GOLD, MORSE), "")
        self.assertEqual(twins(GOLD, called(GOLD, "xy")), "")
        self.assertEqual(twins(NONE, GOLD), "")
        # a has the same word in both, but it reaches b, which has not; c reaches itself alone.
        one = ("a", (("a", "b"), ("b", "c"), ("c", "c"), ("d", "d")))
        two = ("a", (("a", "b"), ("b", "cc"), ("c", "c"), ("e", "d"), ("d", "e")))
        two = book_of(*two)
        self.assertEqual(twins(one, two), "c")
        self.assertEqual(twins(two, one), "c")

    def test_against_the_web(self):
        for one, other in PAIRS:
            self.assertEqual(twins(one, other), plain_twins(one, other))
            self.assertEqual(twins(other, one), plain_twins(one, other))


class TestPartingWrittenOut(unittest.TestCase):
    def test_against_rows_written_out(self):
        seen = {}
        for one, age, other, second in each_case():
            told = parting(one, age, other, second)
            self.assertEqual(told, plain_parting(one, age, other, second))
            mine, yours = written(*one, age), written(*other, second)
            name, place, blocks = told
            seen[name] = seen.get(name, 0) + 1
            self.assertEqual(mine[:place], yours[:place])
            self.assertEqual(name == "alike", mine == yours)
            self.assertEqual(name == "first", place == len(mine) < len(yours))
            self.assertEqual(name == "second", place == len(yours) < len(mine))
            if name == "part":
                self.assertNotEqual(mine[place], yours[place])
        self.assertEqual(sorted(seen), ["alike", "first", "part", "second"])
        self.assertGreater(min(seen.values()), 20)

    def test_the_kinds(self):
        told = parting(GAPS, 2, GAPS_TOO, 2)
        self.assertIs(type(told), tuple)
        self.assertIs(type(told[2]), list)
        self.assertTrue(all(type(block) is tuple for block in told[2]))

    def test_known_ones(self):
        self.assertEqual(parting(GOLD, 4, GOLD, 4), ("alike", 8, [("a", 4)]))
        self.assertEqual(parting(GOLD, 3, GOLD, 4), ("first", 5, [("a", 3)]))
        self.assertEqual(parting(GOLD, 4, GOLD, 3), ("second", 5, [("a", 3)]))
        self.assertEqual(parting(GOLD, 2, LINE, 2), ("part", 2, [("a", 0), ("b", 0)]))
        self.assertEqual(parting(GOLD, 0, GOLD, 0), ("alike", 1, [("a", 0)]))
        # abba baab and abba: the letters have other mothers from there on.
        self.assertEqual(parting(MORSE, 3, MORSE, 2), ("second", 4, [("a", 2)]))
        self.assertEqual(parting(MORSE, 3, ("ab", MORSE[1]), 2), ("alike", 8, [("a", 2), ("b", 2)]))

    def test_empty_rows(self):
        dying = ("ab", (("a", "bb"), ("b", "")))
        self.assertEqual(parting(NONE, 0, NONE, 300), ("alike", 0, []))
        self.assertEqual(parting(NONE, 0, GOLD, 0), ("first", 0, []))
        self.assertEqual(parting(GOLD, 9, NONE, 9), ("second", 0, []))
        self.assertEqual(parting(dying, 2, dying, 300), ("alike", 0, []))
        self.assertEqual(parting(dying, 2, GOLD, 5), ("first", 0, []))

    def test_at_once_apart(self):
        self.assertEqual(parting(GOLD, 5, ("b", GOLD[1]), 0), ("part", 0, []))

    def test_a_letter_of_unlike_words_is_a_block_by_itself_alone(self):
        one = ("a", (("a", "aab"), ("b", "b")))
        two = ("a", (("a", "aba"), ("b", "b")))
        self.assertEqual(parting(one, 1, two, 1), ("part", 1, [("a", 0)]))
        self.assertEqual(parting(("ba", one[1]), 1, ("ba", two[1]), 1), ("part", 2, [("b", 1), ("a", 0)]))

    def test_told_lists_are_the_askers_own(self):
        told = parting(GOLD, 4, GOLD, 4)
        told[2].clear()
        self.assertEqual(parting(GOLD, 4, GOLD, 4), ("alike", 8, [("a", 4)]))


class TestGreatRows(unittest.TestCase):
    def test_at_the_last_age(self):
        self.assertEqual(parting(GOLD, 300, GOLD, 300), ("alike", length(GOLD, 300), [("a", 300)]))
        self.assertEqual(parting(GOLD, 299, GOLD, 300), ("first", length(GOLD, 299), [("a", 299)]))
        self.assertEqual(parting(GOLD, 300, GOLD, 7), ("second", 34, [("a", 7)]))
        self.assertEqual(parting(MORSE, 300, MORSE, 150), ("second", 2 ** 150, [("a", 150)]))

    def test_rows_that_part_two_letters_before_their_end(self):
        one = ("ab", GOLD[1])
        two = ("ba", GOLD[1])
        for age in [5, 20, 100, 199, 200]:
            name, place, blocks = parting(one, age, two, age)
            self.assertEqual(name, "part")
            self.assertEqual(place, length(one, age) - 2)
            self.assertNotEqual(letter_at(one, age, place), letter_at(two, age, place))
            self.assertEqual(shown(one, age, two, age, blocks), place)
            self.assertEqual(blocks, [("a", many) for many in range(age - 1, -1, -1)])
            if age > 20:
                self.assertEqual(stretch(one, age, place - 90, 90), stretch(two, age, place - 90, 90))
        for age in [201, 300]:
            refused(self, "TooMany", parting, one, age, two, age)

    def test_rows_that_part_far_inside(self):
        told = parting(("ab", MORSE[1]), 300, ("aa", MORSE[1]), 300)
        self.assertEqual(told, ("part", 2 ** 300, [("a", 300)]))
        told = parting(("bab", MORSE[1]), 300, ("baab", MORSE[1]), 299)
        self.assertEqual(told, ("second", 4 * 2 ** 299, [("b", 299), ("a", 299), ("a", 299), ("b", 299)]))
        told = parting(GAPS, 300, GAPS_TOO, 300)
        self.assertEqual(told[:2], ("part", 9))
        self.assertEqual(stretch(GAPS, 300, 0, 9), stretch(GAPS_TOO, 300, 0, 9))
        self.assertNotEqual(letter_at(GAPS, 300, 9), letter_at(GAPS_TOO, 300, 9))

    def test_twins_within_unlike_books(self):
        one = ("xa", (("a", "ab"), ("b", "a"), ("x", "ax")))
        two = ("xa", (("a", "ab"), ("b", "a"), ("x", "axb")))
        self.assertEqual(twins(one, two), "ab")
        name, place, blocks = parting(one, 150, two, 150)
        self.assertEqual(name, "part")
        self.assertEqual(shown(one, 150, two, 150, blocks), place)
        self.assertEqual(blocks[:150], [("a", many) for many in range(149, -1, -1)])
        self.assertNotEqual(letter_at(one, 150, place), letter_at(two, 150, place))

    def test_they_come_at_once(self):
        begin = time.perf_counter()
        parting(("ab", GOLD[1]), 200, ("ba", GOLD[1]), 200)
        parting(("ab", MORSE[1]), 300, ("aa", MORSE[1]), 300)
        self.assertLess(time.perf_counter() - begin, 5)


# Rows of many letters a, of unlike mothers: each place is a block by itself.
BRICK = (("a", "a"), ("p", "qqqq"), ("q", "aaaaa"), ("t", "u"), ("u", "a"))
STONE = (("a", "aa"), ("r", "ssss"), ("s", "aaaaa"), ("v", "w"), ("w", "a"), ("z", "x"), ("x", "z"))


class TestTooMany(unittest.TestCase):
    def test_just_two_hundred_and_one_more(self):
        one, two = ("p" * 10, BRICK), ("r" * 10, STONE)
        self.assertEqual(twins(one, two), "")
        self.assertEqual(parting(one, 2, two, 2), ("alike", 200, [("a", 0)] * 200))
        self.assertEqual(parting(one, 2, (two[0] + "v", STONE), 2), ("first", 200, [("a", 0)] * 200))
        self.assertEqual(parting((one[0] + "t", BRICK), 2, two, 2), ("second", 200, [("a", 0)] * 200))
        self.assertEqual(parting((one[0] + "t", BRICK), 2, (two[0] + "z", STONE), 2), ("part", 200, [("a", 0)] * 200))
        refused(self, "TooMany", parting, (one[0] + "t", BRICK), 2, (two[0] + "v", STONE), 2)
        refused(self, "TooMany", parting, (one[0] + "p", BRICK), 2, (two[0] + "r", STONE), 2)

    def test_however_many_there_would_be(self):
        begin = time.perf_counter()
        refused(self, "TooMany", parting, ("a", (("a", "aaaaaa"),)), 300, ("a", (("a", "aaaaa"),)), 300)
        self.assertLess(time.perf_counter() - begin, 5)

    def test_one_behind_the_last_is_no_block(self):
        one, two = ("p" * 10 + "t", BRICK), ("r" * 10, STONE)
        self.assertEqual(parting(one, 2, two, 2)[:2], ("second", 200))


class TestShown(unittest.TestCase):
    def test_told_blocks(self):
        for one, age, other, second in each_case():
            told = parting(one, age, other, second)
            self.assertEqual(shown(one, age, other, second, told[2]), told[1])
            for many in range(len(told[2])):
                part = told[2][:many]
                self.assertEqual(shown(one, age, other, second, part), plain_shown(one, age, other, second, part))

    def test_other_good_ones(self):
        self.assertEqual(shown(GOLD, 4, GOLD, 4, []), 0)
        self.assertEqual(shown(GOLD, 4, GOLD, 4, [("a", 3)]), 5)
        self.assertEqual(shown(GOLD, 4, GOLD, 4, [("a", 3), ("b", 3)]), 8)
        self.assertEqual(shown(GOLD, 4, GOLD, 4, [("a", 0), ("b", 0), ("a", 1), ("b", 1)]), None)
        self.assertEqual(shown(GOLD, 4, GOLD, 4, [("a", 0), ("b", 0), ("a", 0), ("a", 1)]), 5)
        self.assertEqual(shown(GOLD, 4, GOLD, 4, [(letter, 0) for letter in "abaababa"]), 8)
        self.assertEqual(shown(GOLD, 300, GOLD, 300, [("a", 299), ("b", 299)]), length(GOLD, 300))
        self.assertEqual(shown(GOLD, 300, GOLD, 300, [("a", 299), ("a", 1)]), length(GOLD, 299) + 2)
        self.assertIsNone(shown(GOLD, 300, GOLD, 300, [("a", 299), ("b", 1)]))

    def test_a_letter_that_only_begins_there_in_one_row(self):
        # Both have b at place 1; of the one it is the first heir of an a, of the other it is the second.
        one = ("ca", (("a", "b"), ("b", "b"), ("c", "a")))
        self.assertEqual(written(*one, 1), "ab")
        two = ("a", (("a", "ab"), ("b", "b")))
        self.assertIsNone(shown(one, 1, two, 1, [("a", 0), ("b", 1)]))
        self.assertEqual(shown(one, 1, two, 1, [("a", 0), ("b", 0)]), 2)
        self.assertIsNone(shown(two, 1, two, 1, [("a", 0), ("a", 1)]))

    def test_a_letter_that_is_no_twin(self):
        one = ("ab", (("a", "ab"), ("b", "b")))
        two = ("ab", (("a", "ab"), ("b", "bb")))
        self.assertEqual(twins(one, two), "")
        self.assertEqual(shown(one, 1, two, 1, [("a", 0), ("b", 0), ("b", 0)]), 3)
        self.assertIsNone(shown(one, 1, two, 1, [("a", 1)]))
        self.assertIsNone(shown(one, 1, two, 1, [("a", 0), ("b", 0), ("b", 1)]))

    def test_spoilt_ones(self):
        chance = random.Random(97)
        answers = []
        for one, age, other, second in each_case():
            blocks = parting(one, age, other, second)[2]
            for step in range(6):
                spoilt = list(blocks)
                if spoilt:
                    place = chance.randrange(len(spoilt))
                    letter, many = spoilt[place]
                    other_letter = chance.choice(letters(one))
                    spoilt[place] = chance.choice([
                        (letter, many - 1), (letter, many + 1), (other_letter, many), (other_letter, max(many - 1, 0)), (letter, 0),
                    ])
                    if chance.random() < 0.5:
                        spoilt = spoilt[:place + 1]
                else:
                    spoilt = [(chance.choice("abcx"), 0)]
                told = plain_shown(one, age, other, second, spoilt)
                answers.append(told is None)
                self.assertEqual(shown(one, age, other, second, spoilt), told)
        self.assertGreater(answers.count(True), 300)
        self.assertGreater(answers.count(False), 100)

    def test_cut_finer(self):
        """Each told block taken apart into those of its word, as deep as chance will have it."""
        chance = random.Random(98)
        for one, age, other, second in each_case():
            blocks = parting(one, age, other, second)[2]
            finer = []
            waiting = blocks[::-1]
            while waiting:
                letter, many = waiting.pop()
                if many > 0 and chance.random() < 0.6:
                    parts = [(sign, many - 1) for sign in dict(one[1])[letter] if written(sign, one[1], many - 1)]
                    waiting.extend(parts[::-1])
                else:
                    finer.append((letter, many))
            self.assertEqual(shown(one, age, other, second, finer), parting(one, age, other, second)[1])

    def test_beyond_the_end(self):
        self.assertIsNone(shown(GOLD, 3, GOLD, 4, [("a", 3), ("b", 3)]))
        self.assertIsNone(shown(GOLD, 4, GOLD, 4, [("a", 4), ("a", 0)]))
        self.assertIsNone(shown(NONE, 4, NONE, 4, [("a", 0)]))
        self.assertEqual(shown(NONE, 4, NONE, 4, []), 0)

    def test_more_ages_than_there_are(self):
        self.assertEqual(shown(GOLD, 3, GOLD, 5, [("a", 3)]), 5)
        for many in [4, 5, 6, 10 ** 299, -1, -(10 ** 299)]:
            self.assertIsNone(shown(GOLD, 3, GOLD, 5, [("a", many)]))
            self.assertIsNone(shown(GOLD, 5, GOLD, 3, [("a", many)]))

    def test_four_hundred_blocks_and_one_more(self):
        one = ("pppp", (("a", "a"), ("p", "qqqqq"), ("q", "rrrr"), ("r", "aaaaa"), ("t", "u"), ("u", "v"), ("v", "a")))
        two = ("eeee", (("a", "aa"), ("e", "fffff"), ("f", "gggg"), ("g", "aaaaa"), ("t", "u"), ("u", "v"), ("v", "a")))
        self.assertEqual(shown(one, 3, two, 3, [("a", 0)] * 400), 400)
        self.assertEqual(shown(("ppppt", one[1]), 3, ("eeeet", two[1]), 3, [("a", 0)] * 400), 400)
        self.assertIsNone(shown(("ppppt", one[1]), 3, ("eeeet", two[1]), 3, [("a", 0)] * 401))
        self.assertIsNone(shown(one, 3, two, 3, [("a", 0)] * 401))
        self.assertEqual(shown(one, 3, two, 3, [("a", 0)] * 399), 399)

    def test_other_kinds(self):
        wrong = odd_things() + ["", "a", 0, (), (("a", 4),), {("a", 4): 1}, ("a", 4), "a4"]
        for thing in wrong:
            self.assertIsNone(shown(GOLD, 4, GOLD, 4, thing))
        for thing in odd_things() + [
            ["a", 3], ("a",), ("a", 3, 3), (), "a3", ("a", "3"), ("a", True), ("a", False), ("a", None), (3, "a"), ("", 3),
            ("aa", 3), ("A", 3), ("z", 3), ("z", 0), (["a"], 3), ("a", [3]), 3, None, (Thorny(), 3), ("a", Thorny()),
        ]:
            self.assertIsNone(shown(GOLD, 4, GOLD, 4, [thing]))
            self.assertIsNone(shown(GOLD, 4, GOLD, 4, [("a", 3), thing]))
        self.assertIsNone(shown(GOLD, 4, GOLD, 4, [("a", 3), ("b", True)]))
        self.assertIsNone(shown(GOLD, 4, GOLD, 4, [("a", False)]))

    def test_handed_blocks_stay(self):
        blocks = [("a", 3), ("b", 3)]
        shown(GOLD, 4, GOLD, 4, blocks)
        self.assertEqual(blocks, [("a", 3), ("b", 3)])


class TestNoAge(unittest.TestCase):
    def test_of_whatever_kind(self):
        for book in [NONE, GOLD]:
            for thing in no_ages():
                refused(self, "NoAge", parting, book, thing, book, 0)
                refused(self, "NoAge", parting, book, 0, book, thing)
                refused(self, "NoAge", parting, book, thing, book, thing)
                for blocks in [[], None, Thorny(), [("a", 0)] * 401]:
                    refused(self, "NoAge", shown, book, thing, book, 0, blocks)
                    refused(self, "NoAge", shown, book, 0, book, thing, blocks)

    def test_ahead_of_too_many(self):
        one, two = ("p" * 12, BRICK), ("r" * 12, STONE)
        refused(self, "TooMany", parting, one, 2, two, 2)
        refused(self, "NoAge", parting, one, 2, two, 301)
        refused(self, "NoAge", parting, one, -1, two, 2)


if __name__ == "__main__":
    unittest.main()
