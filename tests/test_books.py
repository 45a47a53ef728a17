import itertools
import unittest

from helpers import Thorny, holding_itself, nested, no_letters_of, odd_things, refused
from linegrow.books import book_of, is_book, letters, word

EIGHT = [(letter, "abcdef") for letter in "abcdefgh"]


class TestBookOf(unittest.TestCase):
    def made(self, first, rules):
        book = book_of(first, rules)
        self.assertIs(type(book), tuple)
        self.assertIs(type(book[1]), tuple)
        self.assertTrue(all(type(rule) is tuple for rule in book[1]))
        self.assertIs(is_book(book), True)
        return book

    def test_of_no_letters(self):
        self.assertEqual(self.made("", []), ("", ()))
        self.assertEqual(self.made("", ()), ("", ()))

    def test_of_one_letter(self):
        self.assertEqual(self.made("", [("z", "")]), ("", (("z", ""),)))
        self.assertEqual(self.made("a", (("a", "aa"),)), ("a", (("a", "aa"),)))

    def test_of_eight_letters(self):
        self.assertEqual(self.made("hgfedcba", EIGHT), ("hgfedcba", tuple(EIGHT)))

    def test_any_small_letter_can_be_a_letter(self):
        for letter in "abcdefghijklmnopqrstuvwxyz":
            self.assertEqual(self.made(letter, [(letter, letter)]), (letter, ((letter, letter),)))

    def test_words_of_none_and_of_six_letters(self):
        self.assertEqual(self.made("ab", [("a", ""), ("b", "ababab")]), ("ab", (("a", ""), ("b", "ababab"))))

    def test_a_first_row_of_none_and_of_twelve(self):
        rules = (("a", "b"), ("b", "a"))
        self.assertEqual(self.made("", rules), ("", rules))
        self.assertEqual(self.made("ab" * 6, rules), ("ab" * 6, rules))

    def test_in_any_order_as_a_list_and_as_a_tuple(self):
        rules = (("b", "x"), ("m", "mb"), ("x", ""), ("z", "zzz"))
        for order in itertools.permutations(rules):
            self.assertEqual(self.made("mz", order), ("mz", rules))
            self.assertEqual(self.made("mz", list(order)), ("mz", rules))

    def test_what_is_handed_in_stays_as_it_was(self):
        rules = [("b", "a"), ("a", "ab")]
        book_of("ab", rules)
        self.assertEqual(rules, [("b", "a"), ("a", "ab")])
        refused(self, "NoBook", book_of, "abc", rules)
        self.assertEqual(rules, [("b", "a"), ("a", "ab")])

    def test_a_list_changed_behind_the_call_changes_nothing(self):
        rules = [("b", "a"), ("a", "ab")]
        book = book_of("ab", rules)
        rules[0] = ("c", "c")
        rules.append(("d", ""))
        self.assertEqual(book, ("ab", (("a", "ab"), ("b", "a"))))
        self.assertEqual(letters(book), "ab")
        self.assertEqual(word(book, "b"), "a")
        rules.clear()
        self.assertEqual(book, ("ab", (("a", "ab"), ("b", "a"))))


class TestNoBook(unittest.TestCase):
    """Each wrong thing by itself, with a book that is right but for it, asked of both defs."""

    def no_book(self, first, rules):
        refused(self, "NoBook", book_of, first, rules)
        self.assertIs(is_book((first, rules)), False)

    def test_a_first_row_that_is_no_text(self):
        for first in odd_things() + [0, 1, [], ["a"], (), ("a",)]:
            self.no_book(first, (("a", "a"),))
            self.no_book(first, ())

    def test_a_first_row_with_a_letter_without_a_rule(self):
        for first in ["b", "ab", "ba", "aab", "A", "a ", " ", ".", "1", "\n", "\u00e9"]:
            self.no_book(first, (("a", "a"),))
        self.no_book("a", ())

    def test_a_first_row_with_a_thirteenth_letter(self):
        self.assertIs(is_book(("a" * 12, (("a", "a"),))), True)
        self.no_book("a" * 13, (("a", "a"),))
        self.no_book("ab" * 500, (("a", "a"), ("b", "a")))

    def test_rules_that_are_no_list_or_tuple(self):
        for rules in odd_things() + [0, 1, 10 ** 299, "", "a", "aa", {("a", "a")}, iter([("a", "a")])]:
            self.no_book("", rules)

    def test_a_rule_that_is_no_tuple_of_two(self):
        wrong = odd_things() + [
            0, "", "a", "aa", "ab", [], ["a", "a"], (), ("a",), ("a", "a", "a"), ("a", "a", ""), {"a": "a", "b": "b"},
        ]
        for rule in wrong:
            self.no_book("", (rule,))
            self.no_book("", (("a", "a"), rule))
            refused(self, "NoBook", book_of, "", [("a", "a"), rule])

    def test_a_letter_that_is_none(self):
        for letter in no_letters_of("abcdefghijklmnopqrstuvwxyz"):
            self.no_book("", ((letter, ""),))

    def test_a_letter_twice(self):
        self.no_book("", (("a", "a"), ("a", "a")))
        self.no_book("", (("a", "a"), ("a", "")))
        self.no_book("", (("a", ""), ("a", "a")))
        self.no_book("ab", (("a", "a"), ("b", "b"), ("b", "ab")))
        self.no_book("ab", (("a", "a"), ("b", "b"), ("a", "a")))

    def test_a_ninth_letter(self):
        self.assertIs(is_book(("", tuple((letter, "") for letter in "abcdefgh"))), True)
        self.no_book("", tuple((letter, "") for letter in "abcdefghi"))
        self.no_book("", tuple((letter, "") for letter in "abcdefghijklmnopqrstuvwxyz"))

    def test_a_word_that_is_no_text(self):
        for wrong in odd_things() + [0, 1, [], ["a"], (), ("a",)]:
            self.no_book("a", (("a", wrong),))
            self.no_book("a", (("a", "a"), ("b", wrong)))

    def test_a_word_of_seven_letters(self):
        self.assertIs(is_book(("", (("a", "a" * 6),))), True)
        self.no_book("", (("a", "a" * 7),))
        self.no_book("", (("a", "a"), ("b", "abababa")))

    def test_a_word_with_a_sign_that_has_no_rule(self):
        for wrong in ["b", "ab", "ba", "A", "a ", " ", ".", "1", "\n", "\u00e9"]:
            self.no_book("a", (("a", wrong),))


class TestIsBook(unittest.TestCase):
    def test_books(self):
        for thing in [("", ()), ("a", (("a", ""),)), ("ba", (("a", "b"), ("b", "ab"))), ("", tuple(EIGHT))]:
            self.assertIs(is_book(thing), True)

    def test_rules_that_do_not_rise(self):
        self.assertIs(is_book(("ab", (("a", "b"), ("b", "a")))), True)
        self.assertIs(is_book(("ab", (("b", "a"), ("a", "b")))), False)
        self.assertIs(is_book(("", (("a", ""), ("c", ""), ("b", "")))), False)

    def test_lists_in_the_place_of_tuples(self):
        self.assertIs(is_book(["a", (("a", "a"),)]), False)
        self.assertIs(is_book(("a", [("a", "a")])), False)
        self.assertIs(is_book(("a", (["a", "a"],))), False)
        self.assertIs(is_book(("", [])), False)
        self.assertIs(is_book(["", []]), False)
        self.assertIs(is_book((["a"], (("a", "a"),))), False)
        self.assertIs(is_book(("a", (("a", ["a"]),))), False)

    def test_tuples_of_another_length(self):
        for thing in [(), ("",), ((),), ("", (), ()), ("", (), ""), ("a", "a"), ("a", ("a", "a"))]:
            self.assertIs(is_book(thing), False)

    def test_things_of_other_kinds(self):
        for thing in no_letters_of("") + [Thorny(), nested(30), holding_itself(), (Thorny(), Thorny())]:
            self.assertIs(is_book(thing), False)

    def test_does_not_change_what_it_looks_at(self):
        rules = [("b", ""), ("a", "")]
        self.assertIs(is_book(("", rules)), False)
        self.assertEqual(rules, [("b", ""), ("a", "")])


class TestLettersAndWord(unittest.TestCase):
    def test_letters(self):
        self.assertEqual(letters(("", ())), "")
        self.assertEqual(letters(book_of("", [("z", ""), ("c", ""), ("m", "")])), "cmz")
        self.assertEqual(letters(book_of("a", EIGHT)), "abcdefgh")

    def test_letters_that_no_row_has_are_letters_too(self):
        self.assertEqual(letters(("", (("a", ""), ("b", "a")))), "ab")

    def test_word_of_each_letter(self):
        rules = (("b", ""), ("m", "mb"), ("x", "bmxbmx"), ("z", "z"))
        for letter, text in rules:
            self.assertEqual(word(("mz", rules), letter), text)

    def test_what_is_none_of_the_letters(self):
        books = [("", ()), ("a", (("a", "a"),)), ("ab", (("a", "ab"), ("b", "")))]
        for book in books:
            for thing in no_letters_of(letters(book)):
                refused(self, "NoLetter", word, book, thing)
        self.assertEqual(word(books[2], "a"), "ab")


if __name__ == "__main__":
    unittest.main()
