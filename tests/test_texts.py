import unittest

from helpers import odd_things, refused, some_books
from linegrow.books import book_of, is_book
from linegrow.texts import read_book, show_book

NO_TEXTS = [
    "", " ", "a", "ab", "a=ab", " :", ": ", " : ", "::", ":a", ": a", ": =", ": =a", ": a=b", "b: a=a", "a:", "A:",
    "a: a=a ", "a:  a=a", " a: a=a", "a : a=a", "a:a=a", "a: a =a", "a: a= a", "a: a=a\n", "a:\na=a", "a:\ta=a",
    "a: a=ab", "a: a=a b", "b: a=a b", "a: b= a=", "a: a= a=", "a: a=a a=a", "a: a== ", "a: a==a",
    "a: a=a=a", "a: a=a:", "a:: a=a", "a: a=a,", "a: a=A", "a: A=a", "a: aa=a", "a: a=aaaaaaa", "a: a=a; b=b",
    "aaaaaaaaaaaaa: a=a", "a: a=a b=b c=c d=d e=e f=f g=g h=h i=i", "(a: a=a)", "a: a=a b=b c=d", "a: a=- b=b",
    "-: a=a", "a: a=.", "a: 1=a", "\u00e9: \u00e9=\u00e9", "a: c=a a=c b=b", "a:" + " " * 900, "a: b=b",
]


class TestTexts(unittest.TestCase):
    def test_known_ones(self):
        self.assertEqual(show_book(("ab", (("a", "ab"), ("b", "")))), "ab: a=ab b=")
        self.assertEqual(show_book(("", ())), ":")
        self.assertEqual(show_book(("", (("a", ""),))), ": a=")
        self.assertEqual(read_book("ab: a=ab b="), ("ab", (("a", "ab"), ("b", ""))))
        self.assertEqual(read_book(":"), ("", ()))
        self.assertEqual(read_book(": a="), ("", (("a", ""),)))
        self.assertEqual(read_book("z: y=zz z=yyyyyy"), ("z", (("y", "zz"), ("z", "yyyyyy"))))

    def test_there_and_back(self):
        full = book_of("abcdefghabcd", [(sign, "habcde") for sign in "hgfedcba"])
        for book in some_books(200, 801, 6, 8) + [("", ()), full]:
            text = show_book(book)
            self.assertIs(type(text), str)
            told = read_book(text)
            self.assertEqual(told, book)
            self.assertIs(is_book(told), True)
            self.assertEqual(show_book(told), text)

    def test_no_texts(self):
        for text in NO_TEXTS:
            refused(self, "NoText", read_book, text)

    def test_other_kinds(self):
        for thing in odd_things() + [0, 1, -1, 10 ** 299, [], ["a:"], (), (":",), ("", ()), b":", bytearray(b":")]:
            refused(self, "NoText", read_book, thing)

    def test_a_sign_more_or_less(self):
        text = "ab: a=ab b="
        read = []
        for place in range(len(text) + 1):
            for sign in " :=abcA.":
                read.append(text[:place] + sign + text[place:])
            read.append(text[:place] + text[place + 1:])
        for each in sorted(set(read) - {text}):
            try:
                self.assertEqual(show_book(read_book(each)), each)
            except ValueError:
                refused(self, "NoText", read_book, each)
        told = []
        for each in read:
            try:
                told.append(show_book(read_book(each)))
            except ValueError:
                pass
        # Another letter in the first row or in a word, or one less there, makes other books; all else makes none.
        self.assertEqual(sorted(set(told) - {text}), sorted([
            "aab: a=ab b=", "bab: a=ab b=", "abb: a=ab b=", "aba: a=ab b=", "a: a=ab b=", "b: a=ab b=",
            "ab: a=aab b=", "ab: a=bab b=", "ab: a=abb b=", "ab: a=aba b=", "ab: a=a b=", "ab: a=b b=",
            "ab: a=ab b=a", "ab: a=ab b=b",
        ]))


if __name__ == "__main__":
    unittest.main()
