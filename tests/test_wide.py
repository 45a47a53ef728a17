import random
import unittest

from helpers import Thorny, no_ages, odd_things, refused, some_books, written
from linegrow.books import letters
from linegrow.wide import fits, is_wide, starts, wide_mirrored, wide_of, wide_plain, wide_row, wide_turned

NONE = ("", ())
GOLD = ("a", (("a", "ab"), ("b", "a")))
# a is turned at the ends and beside b in other ways than elsewhere; c has no rule.
MIXED = ("abcab", (
    (".", "a", "", "ba"), ("b", "a", "b", "a"), ("", "a", "b", "ab"), ("b", "b", ".", "c"), ("", "b", ".", "bc"),
    ("a", "b", "", "cb"),
))
GROWING = ("a", (("", "a", "", "aa"),))


def some_wides(many, seed, most=12):
    chance = random.Random(seed)
    told = []
    for step in range(many):
        signs = "abcd"[:chance.randint(1, 4)]
        sides = list(signs) + [".", "", ""]
        rules = []
        for number in range(chance.randint(0, 8)):
            word = "".join(chance.choices(signs, k=chance.choice([1, 1, 1, 1, 2, 2, 3])))
            rules.append((chance.choice(sides), chance.choice(signs), chance.choice(sides), word))
        told.append(wide_of("".join(chance.choices(signs, k=chance.randint(0, most))), rules))
    return told


def plain_fits(wide, left, letter, right):
    for number, (before, middle, behind, word) in enumerate(wide[1]):
        if middle == letter and (before == "" or before == left) and (behind == "" or behind == right):
            return number
    return None


def plain_parts(wide, age):
    """The heirs of each letter of first, by turning letters that know which letter of first they came of."""
    row = list(enumerate(wide[0]))
    for step in range(age):
        later = []
        for place, (elder, letter) in enumerate(row):
            left = row[place - 1][1] if place > 0 else "."
            right = row[place + 1][1] if place + 1 < len(row) else "."
            number = plain_fits(wide, left, letter, right)
            later += [(elder, sign) for sign in (letter if number is None else wide[1][number][3])]
        row = later
    return ["".join(letter for elder, letter in row if elder == place) for place in range(len(wide[0]))]


def last_age(wide, most=600):
    """The last age up to 40 at which the row has at most so many letters."""
    age = 0
    while age < 40 and len("".join(plain_parts(wide, age + 1))) <= most:
        age += 1
    return age


class TestBooks(unittest.TestCase):
    def makes(self, first, rules):
        told = wide_of(first, rules)
        self.assertEqual(told, (first, tuple(rules)))
        self.assertIs(type(told), tuple)
        self.assertIs(type(told[1]), tuple)
        self.assertIs(is_wide(told), True)

    def makes_none(self, first, rules):
        refused(self, "NoBook", wide_of, first, rules)
        self.assertIs(is_wide((first, rules)), False)
        if isinstance(rules, list):
            self.assertIs(is_wide((first, tuple(rules))), False)

    def test_in_their_order(self):
        rules = [("b", "a", "", "ab"), ("", "a", "", "b"), (".", "c", ".", "abc")]
        for each in [rules, tuple(rules), rules[::-1], tuple(rules[::-1]), rules * 2, [rules[0]] * 20]:
            self.makes("abc", each)
        self.makes("", [])
        self.makes("", ())
        self.makes("zyx", [])

    def test_letters_need_no_rule(self):
        self.makes("xyz", [("p", "a", "q", "rst")])

    def test_twenty_rules_and_one_more(self):
        rule = ("", "a", "", "ab")
        self.makes("a", [rule] * 20)
        self.makes_none("a", [rule] * 21)
        self.makes_none("a", (rule,) * 21)
        self.makes_none("a", [rule] * 500)

    def test_twelve_letters_and_one_more(self):
        self.makes("abcdefghijkl", [])
        self.makes_none("abcdefghijklm", [])

    def test_words(self):
        for word in ["a", "zzzzzz", "abcdef"]:
            self.makes("a", [("", "a", "", word)])
        for word in ["", "abcdefg", "A", "a.", ".", "a b", " ", "-", "1", "\n", "\u00e9"]:
            self.makes_none("a", [("", "a", "", word)])

    def test_sides(self):
        for side in ["", ".", "a", "z"]:
            self.makes("a", [(side, "a", "", "a")])
            self.makes("a", [("", "a", side, "a")])
            self.makes("a", [(side, "b", side, "a")])
        for side in odd_things() + ["ab", "..", "a.", " ", "A", "-", "1", "\n", 0, 1, [], ["a"], (), ("a",), b"a"]:
            self.makes_none("a", [(side, "a", "", "a")])
            self.makes_none("a", [("", "a", side, "a")])

    def test_letters(self):
        for letter in odd_things() + ["", ".", "ab", "A", " ", "1", "-", "\u00e9", 0, 1, [], ["a"], (), ("a",)]:
            self.makes_none("a", [("", letter, "", "a")])

    def test_words_of_other_kinds(self):
        for word in odd_things() + [0, 1, [], ["a"], (), ("a",), b"a"]:
            self.makes_none("a", [("", "a", "", word)])

    def test_rules_of_other_sizes_and_kinds(self):
        for rule in odd_things() + [
            ("", "a", ""), ("", "a", "", "a", ""), (), ["", "a", "", "a"], "aaaa", ("a", "a"), 0, 4, {"a": 1}, "",
        ]:
            self.makes_none("a", [rule])
            self.makes_none("a", (("", "a", "", "a"), rule))
        for rules in odd_things() + ["", "aaaa", 0, 1, {"": 1}, ("", "a", "", "a")]:
            refused(self, "NoBook", wide_of, "a", rules)
            self.assertIs(is_wide(("a", rules)), False)

    def test_first_rows_of_other_kinds(self):
        for first in odd_things() + [0, 1, [], ["a"], (), ("a",), "A", ".", " ", "a b", "a1", "\u00e9", b"a"]:
            self.makes_none(first, [])
            self.makes_none(first, [("", "a", "", "a")])

    def test_is_wide_of_whatever_thing(self):
        for thing in odd_things() + ["", "a", 0, 1, (), ("a",), ("a", (), ()), ["a", ()], ("a", []), (Thorny(), Thorny())]:
            self.assertIs(is_wide(thing), False)
        for thing in [NONE, ("ab", ()), MIXED, GROWING]:
            self.assertIs(is_wide(thing), True)
        self.assertIs(is_wide(GOLD), False)
        self.assertIs(is_wide((MIXED[0], list(MIXED[1]))), False)

    def test_a_list_that_is_changed_later(self):
        rules = [("", "a", "", "ab")]
        told = wide_of("a", rules)
        rules.append(("", "b", "", "b"))
        self.assertEqual(told, ("a", (("", "a", "", "ab"),)))
        self.assertEqual(rules, [("", "a", "", "ab"), ("", "b", "", "b")])


class TestFits(unittest.TestCase):
    def test_each_side(self):
        self.assertEqual(fits(MIXED, ".", "a", "b"), 0)
        self.assertEqual(fits(MIXED, ".", "a", "."), 0)
        self.assertEqual(fits(MIXED, "b", "a", "b"), 1)
        self.assertEqual(fits(MIXED, "c", "a", "b"), 2)
        self.assertIsNone(fits(MIXED, "c", "a", "c"))
        self.assertIsNone(fits(MIXED, "c", "a", "."))
        self.assertEqual(fits(MIXED, "b", "b", "."), 3)
        self.assertEqual(fits(MIXED, "a", "b", "."), 4)
        self.assertEqual(fits(MIXED, ".", "b", "."), 4)
        self.assertEqual(fits(MIXED, "a", "b", "z"), 5)
        self.assertIsNone(fits(MIXED, "a", "c", "b"))
        self.assertIsNone(fits(NONE, ".", "a", "."))
        self.assertEqual(fits(GROWING, "z", "a", "y"), 0)

    def test_the_first_of_several(self):
        rule = ("", "a", "", "ab")
        self.assertEqual(fits(("a", (rule, rule)), ".", "a", "."), 0)
        self.assertEqual(fits(("a", (("b", "a", "", "c"), rule, rule)), ".", "a", "."), 1)

    def test_against_a_second_reading(self):
        for wide in some_wides(40, 601):
            for left in ".abcdz":
                for letter in "abcdz":
                    for right in ".abcdz":
                        self.assertEqual(fits(wide, left, letter, right), plain_fits(wide, left, letter, right))

    def test_no_letters(self):
        for thing in odd_things() + ["", "ab", "A", " ", "..", "1", "\u00e9", 0, 1, [], ["a"], (), ("a",)]:
            refused(self, "NoLetter", fits, MIXED, thing, "a", "a")
            refused(self, "NoLetter", fits, MIXED, "a", thing, "a")
            refused(self, "NoLetter", fits, MIXED, "a", "a", thing)
            refused(self, "NoLetter", fits, NONE, thing, thing, thing)
        refused(self, "NoLetter", fits, MIXED, ".", ".", ".")


class TestTurned(unittest.TestCase):
    def test_by_hand(self):
        # a at the beginning, b behind a, c, a ahead of b, b at the end.
        self.assertEqual(wide_turned(MIXED, "abcab"), "ba" + "cb" + "c" + "ab" + "bc")
        self.assertEqual(wide_turned(MIXED, "bab"), "b" + "a" + "bc")
        self.assertEqual(wide_turned(MIXED, "a"), "ba")
        self.assertEqual(wide_turned(MIXED, "b"), "bc")
        self.assertEqual(wide_turned(MIXED, "c"), "c")
        self.assertEqual(wide_turned(MIXED, "bb"), "b" + "c")
        self.assertEqual(wide_turned(MIXED, "xyz"), "xyz")
        self.assertEqual(wide_turned(MIXED, ""), "")
        self.assertEqual(wide_turned(NONE, "hello"), "hello")

    def test_all_at_once(self):
        # Each a looks at the b ahead of it as it stood, though that b is turned as well.
        wide = ("", (("b", "a", "", "b"), ("", "b", "", "c")))
        self.assertEqual(wide_turned(wide, "baa"), "cba")

    def test_against_a_second_reading(self):
        chance = random.Random(602)
        for wide in some_wides(60, 603):
            for many in [0, 1, 2, 3, 9, 40]:
                text = "".join(chance.choices("abcde", k=many))
                told = "".join(plain_parts((text, wide[1]), 1))
                self.assertEqual(wide_turned(wide, text), told)

    def test_six_hundred_letters_and_one_more(self):
        self.assertEqual(wide_turned(GROWING, "a" * 600), "a" * 1200)
        self.assertEqual(wide_turned(NONE, "z" * 600), "z" * 600)
        refused(self, "NoLetter", wide_turned, GROWING, "a" * 601)
        refused(self, "NoLetter", wide_turned, NONE, "z" * 1000)

    def test_no_texts(self):
        for thing in odd_things() + ["A", "a b", "a.", ".", " ", "ab1", "\n", "\u00e9", 0, 1, [], ["a"], (), ("a",)]:
            refused(self, "NoLetter", wide_turned, MIXED, thing)
            refused(self, "NoLetter", wide_turned, NONE, thing)


class TestRows(unittest.TestCase):
    def test_against_rows_written_out(self):
        seen = {"all": 0, "long": 0}
        for wide in some_wides(60, 604) + [NONE, MIXED, GROWING, ("abc", ())]:
            last = last_age(wide, 200)
            for age in list(range(0, last + 1, 5)) + [last]:
                parts = plain_parts(wide, age)
                self.assertEqual(wide_row(wide, age), "".join(parts))
                self.assertEqual(starts(wide, age), [len("".join(parts[:place])) for place in range(len(parts))])
            seen["all"] += last == 40
            seen["long"] += last < 40
        self.assertGreater(min(seen.values()), 10, seen)

    def test_known_rows(self):
        self.assertEqual([wide_row(MIXED, age) for age in range(3)], ["abcab", "bacbcabbc", "bacbcabcbbc"])
        self.assertEqual(starts(MIXED, 0), [0, 1, 2, 3, 4])
        self.assertEqual(starts(MIXED, 1), [0, 2, 4, 5, 7])
        self.assertEqual(starts(GROWING, 7), [0])
        self.assertEqual(starts(NONE, 40), [])
        self.assertEqual(wide_row(NONE, 40), "")

    def test_six_hundred_letters_and_one_more(self):
        # Behind each letter of first one z more stands at each age.
        wide = ("abcdefghijkl", tuple(("", sign, "", sign + "z") for sign in "abcdefghijkl"))
        self.assertEqual(len(wide_row(wide, 40)), 12 * 41)
        full = ("a" * 12, (("", "a", "", "aaaaaa"),))
        self.assertEqual(len(wide_row(full, 2)), 432)
        refused(self, "TooLong", wide_row, full, 3)
        refused(self, "TooLong", starts, full, 3)
        refused(self, "TooLong", wide_row, full, 40)
        # Ten letters, of each of which sixty come.
        steps = (("", "a", "", "bbbbb"), ("", "b", "", "cccccc"), ("", "c", "", "dd"))
        self.assertEqual(wide_row(("a" * 10, steps), 3), "d" * 600)
        self.assertEqual(starts(("a" * 10, steps), 3), [60 * place for place in range(10)])
        self.assertEqual(wide_row(("a" * 10, steps), 40), "d" * 600)
        refused(self, "TooLong", wide_row, ("a" * 10 + "x", steps), 3)
        refused(self, "TooLong", starts, ("a" * 10 + "x", steps), 3)
        self.assertEqual(len(wide_row(("a" * 10 + "x", steps), 2)), 301)

    def test_no_ages(self):
        for thing in no_ages(40):
            for wide in [NONE, MIXED, GROWING]:
                refused(self, "NoAge", wide_row, wide, thing)
                refused(self, "NoAge", starts, wide, thing)
        refused(self, "TooLong", wide_row, GROWING, 40)
        refused(self, "NoAge", wide_row, GROWING, 41)

    def test_told_lists_are_the_askers_own(self):
        told = starts(MIXED, 1)
        told.clear()
        self.assertEqual(starts(MIXED, 1), [0, 2, 4, 5, 7])


class TestChanged(unittest.TestCase):
    def test_plain_has_the_rows_of_the_book(self):
        self.assertEqual(wide_plain(GOLD), ("a", (("", "a", "", "ab"), ("", "b", "", "a"))))
        self.assertEqual(wide_plain(("", ())), NONE)
        made = 0
        for book in some_books(120, 605, 3, 4) + [GOLD]:
            if any(text == "" for letter, text in book[1]):
                refused(self, "NoBook", wide_plain, book)
                continue
            wide = wide_plain(book)
            made += 1
            self.assertIs(is_wide(wide), True)
            self.assertEqual([rule[1] for rule in wide[1]], list(letters(book)))
            for age in range(7):
                text = written(*book, age)
                if len(text) <= 600:
                    self.assertEqual(wide_row(wide, age), text)
        self.assertGreater(made, 20)
        refused(self, "NoBook", wide_plain, ("b", (("a", ""), ("b", "b"))))

    def test_mirrored_has_the_rows_the_other_way_round(self):
        self.assertEqual(wide_mirrored(("abc", (("a", "b", ".", "abc"), ("", "c", "a", "d")))),
                         ("cba", ((".", "b", "a", "cba"), ("a", "c", "", "d"))))
        for wide in some_wides(60, 606) + [NONE, MIXED]:
            turned = wide_mirrored(wide)
            self.assertIs(is_wide(turned), True)
            self.assertEqual(wide_mirrored(turned), wide)
            for age in range(min(last_age(wide, 200), 8) + 1):
                self.assertEqual(wide_row(turned, age), wide_row(wide, age)[::-1])


if __name__ == "__main__":
    unittest.main()
