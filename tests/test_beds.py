import random
import unittest

from helpers import no_ages, no_letters_of, no_numbers, odd_things, refused, some_books, written
from linegrow.beds import Bed
from linegrow.books import book_of, letters
from linegrow.heirs import forebear, heirs
from linegrow.places import letter_at, stretch
from linegrow.sums import counts, length

NONE = ("", ())
GOLD = ("a", (("a", "ab"), ("b", "a")))
MORSE = ("a", (("a", "ab"), ("b", "ba")))
# What d comes to is beyond all writing, until a word is told by which it dies.
FULL = ("xdx", (("d", "dddddd"), ("x", "x")))


def no_words_of(inside):
    others = [sign for sign in "abcdefghijklmnopqrstuvwxyz" if sign not in inside]
    return odd_things() + others + [
        inside[0] * 7, inside[0] + others[0], "A", "1", "-", ".", " ", inside[0] + " ", "\n", "\u00e9", 0, 1, -1,
        10 ** 299, [], [inside[0]], (), (inside[0],), bytearray(b"a"),
    ]


def no_names():
    return odd_things() + [
        "", "abcdefghi", "a" * 100, "A", "aB", "a1", "1", "a b", " ", "a ", "a_b", "a.", "-", "\n", "\u00e9", "\u00aa",
        0, 1, -1, 10 ** 299, [], ["a"], (), ("a",), bytearray(b"a"),
    ]


def no_places(last):
    return odd_things() + [-1, last + 1, 10 ** 299, -(10 ** 299), "", "0", "a", [], [0], (), (0,)]


class Plain:
    """A bed whose rows are all written down anew each time, each letter with the place of its mother."""

    def __init__(self, book):
        self.book = book
        self.present = 0
        self.words = {}
        self.spots = {}

    def word(self, age, letter):
        told = [(each[0], text) for each, text in self.words.items() if each[1] == letter and each[0] <= age]
        return max(told)[1] if told else dict(self.book[1])[letter]

    def lines(self, last):
        told = [[(letter, None) for letter in self.book[0]]]
        for age in range(last):
            told.append([(sign, place) for place, (letter, mother) in enumerate(told[-1]) for sign in self.word(age, letter)])
        return told

    def row(self):
        return "".join(letter for letter, mother in self.lines(self.present)[-1])

    def longest(self):
        return max(len(line) for line in self.lines(max([self.present] + [age for age, place in self.spots.values()])))

    def where(self, name):
        own, place = self.spots[name]
        lines = self.lines(max(own, self.present))
        if place >= len(lines[own]):
            return None
        if self.present <= own:
            for age in range(own, self.present, -1):
                place = lines[age][place][1]
            return (place, 1)
        elders = list(range(len(lines[own])))
        for age in range(own + 1, self.present + 1):
            elders = [elders[mother] for letter, mother in lines[age]]
        return (len([elder for elder in elders if elder < place]), elders.count(place))


def held(case, bed, plain):
    """Everything that the bed tells at this moment."""
    text = plain.row()
    signs = letters(plain.book)
    case.assertEqual(bed.age(), plain.present)
    case.assertEqual(bed.turns(), sorted((age, letter, word) for (age, letter), word in plain.words.items()))
    case.assertEqual(bed.length(), len(text))
    case.assertEqual(bed.counts(), [text.count(sign) for sign in signs])
    case.assertEqual("".join(bed.letter(place) for place in range(len(text))), text)
    case.assertEqual(bed.row(), text)
    for start in range(0, len(text) + 1, 3):
        for many in [0, 1, 2, min(7, len(text) - start), min(100, len(text) - start)]:
            if start + many <= len(text):
                case.assertEqual(bed.stretch(start, many), text[start:start + many])
    refused(case, "NoPlace", bed.letter, len(text))
    refused(case, "NoPlace", bed.stretch, len(text), 1)
    case.assertEqual(bed.marks(), sorted(plain.spots))
    for name in plain.spots:
        case.assertEqual(bed.where(name), plain.where(name))
    for age in [0, plain.present, plain.present + 1, 300]:
        for sign in signs:
            case.assertEqual(bed.word(age, sign), plain.word(age, sign))


def deed(chance, bed, plain):
    """One deed done to both; words told often for ages near the present one."""
    signs = letters(plain.book)
    name = chance.choice(["grow", "grow", "back", "turn", "turn_at", "turn_at", "undo", "mark", "mark"])
    if name == "grow":
        many = chance.randint(0, 2)
        plain.present += many
        told = bed.grow(many)
        return told == plain.present
    if name == "back":
        many = chance.randint(0, min(3, plain.present))
        plain.present -= many
        return bed.back(many) == plain.present
    if name == "mark":
        text = plain.row()
        if not text:
            return True
        spot = chance.choice(["a", "left", "zzzzzzzz"])
        place = chance.randrange(len(text))
        plain.spots[spot] = (plain.present, place)
        return bed.mark(spot, place) is None
    if name == "undo":
        if not plain.words:
            return True
        age, letter = chance.choice(sorted(plain.words))
        del plain.words[(age, letter)]
        return bed.undo(age, letter) is None
    letter = chance.choice(signs)
    word = "".join(chance.choices(signs, k=chance.choice([0, 0, 1, 1, 2, 3])))
    age = plain.present if name == "turn" else chance.randint(0, plain.present + 3)
    plain.words[(age, letter)] = word
    return (bed.turn(letter, word) if name == "turn" else bed.turn_at(age, letter, word)) is None


class TestDeeds(unittest.TestCase):
    def test_against_rows_written_down_anew(self):
        chance = random.Random(501)
        seen = {"None": 0, "none": 0, "many": 0, "before": 0}
        for book in some_books(70, 502, 2, 4):
            bed, plain = Bed(book), Plain(book)
            for step in range(25):
                self.assertTrue(deed(chance, bed, plain))
                if plain.longest() > 60:
                    break
                held(self, bed, plain)
                for name, (age, place) in plain.spots.items():
                    spot = plain.where(name)
                    seen["None"] += spot is None
                    seen["none"] += spot is not None and spot[1] == 0
                    seen["many"] += spot is not None and spot[1] > 1
                    seen["before"] += spot is not None and plain.present < age
        self.assertGreater(min(seen.values()), 20, seen)

    def test_twins_go_their_own_ways(self):
        chance = random.Random(503)
        for book in some_books(25, 504, 2, 3):
            bed, plain = Bed(book), Plain(book)
            for step in range(6):
                deed(chance, bed, plain)
            if plain.longest() > 30:
                continue
            other = bed.twin()
            self.assertIsInstance(other, Bed)
            copy = Plain(book)
            copy.present, copy.words, copy.spots = plain.present, dict(plain.words), dict(plain.spots)
            held(self, other, copy)
            for step in range(5):
                deed(chance, bed, plain)
                deed(chance, other, copy)
                if max(plain.longest(), copy.longest()) > 60:
                    break
                held(self, bed, plain)
                held(self, other, copy)


class TestWords(unittest.TestCase):
    def test_a_new_bed(self):
        bed = Bed(GOLD)
        self.assertEqual((bed.age(), bed.turns(), bed.marks(), bed.row()), (0, [], [], "a"))
        self.assertEqual(bed.word(300, "a"), "ab")

    def test_a_word_holds_from_its_age_on(self):
        bed = Bed(GOLD)
        bed.grow(2)
        self.assertEqual(bed.row(), "aba")
        self.assertIsNone(bed.turn("b", "bb"))
        self.assertEqual(bed.row(), "aba")
        self.assertEqual([bed.word(age, "b") for age in [0, 1, 2, 3, 300]], ["a", "a", "bb", "bb", "bb"])
        bed.grow(1)
        self.assertEqual(bed.row(), "abbbab")
        self.assertIsNone(bed.turn_at(0, "a", "ba"))
        # a, ba, aba, babbba: the word of a is told from age 0 on, that of b from age 2 on.
        self.assertEqual(bed.row(), "babbba")
        bed.back(1)
        self.assertEqual(bed.row(), "aba")
        self.assertEqual(bed.turns(), [(0, "a", "ba"), (2, "b", "bb")])

    def test_told_again_and_taken_back(self):
        bed = Bed(GOLD)
        bed.turn("a", "b")
        bed.turn("a", "bb")
        self.assertEqual(bed.turns(), [(0, "a", "bb")])
        bed.grow(1)
        self.assertEqual(bed.row(), "bb")
        bed.turn("a", "aaa")
        self.assertIsNone(bed.undo(0, "a"))
        self.assertEqual(bed.row(), "ab")
        self.assertEqual(bed.turns(), [(1, "a", "aaa")])
        refused(self, "NoTurn", bed.undo, 0, "a")
        bed.grow(1)
        self.assertEqual(bed.row(), "aaaa")
        bed.undo(1, "a")
        self.assertEqual(bed.row(), "aba")
        # What stood ahead of a word that is taken back holds again, be it told or the book's.
        bed.turn_at(0, "b", "")
        bed.turn_at(1, "b", "bbb")
        self.assertEqual(bed.row(), "abbbb")
        bed.undo(1, "b")
        self.assertEqual(bed.row(), "ab")

    def test_words_for_ages_not_yet_come_to(self):
        bed = Bed(GOLD)
        bed.turn_at(3, "a", "")
        bed.turn_at(300, "a", "b")
        bed.turn_at(5, "b", "bb")
        self.assertEqual([bed.row()] + [(bed.grow(1), bed.row())[1] for step in range(5)],
                         ["a", "ab", "aba", "abaab", "aa", ""])
        self.assertEqual(bed.turns(), [(3, "a", ""), (5, "b", "bb"), (300, "a", "b")])
        self.assertEqual(bed.grow(295), 300)
        self.assertEqual(bed.row(), "")
        self.assertEqual(bed.word(300, "a"), "b")
        self.assertEqual(bed.word(299, "a"), "")

    def test_turns_rise(self):
        bed = Bed(GOLD)
        for age, letter in [(100, "b"), (20, "a"), (3, "b"), (20, "b"), (0, "a"), (100, "a")]:
            bed.turn_at(age, letter, "a")
        self.assertEqual([each[:2] for each in bed.turns()],
                         [(0, "a"), (3, "b"), (20, "a"), (20, "b"), (100, "a"), (100, "b")])
        self.assertTrue(all(type(each) is tuple for each in bed.turns()))

    def test_no_letters_and_empty_rows(self):
        for book in [NONE, ("", GOLD[1])]:
            bed = Bed(book)
            bed.grow(300)
            self.assertEqual((bed.length(), bed.counts(), bed.row(), bed.stretch(0, 0)), (0, [0] * len(book[1]), "", ""))
            refused(self, "NoPlace", bed.letter, 0)
            refused(self, "NoPlace", bed.mark, "a", 0)

    def test_beds_of_one_book_do_not_touch(self):
        one, other = Bed(GOLD), Bed(GOLD)
        one.turn("a", "")
        one.mark("x", 0)
        one.grow(3)
        self.assertEqual((other.turns(), other.marks(), other.age(), other.row()), ([], [], 0, "a"))


class TestGreatAges(unittest.TestCase):
    def test_as_the_book_where_no_word_is_told(self):
        for book in [GOLD, MORSE] + some_books(12, 511, 3, 5):
            bed = Bed(book)
            bed.grow(300)
            whole = length(book, 300)
            self.assertEqual(bed.length(), whole)
            self.assertEqual(bed.counts(), counts(book, 300))
            for place in [0, whole // 7, whole // 2, whole - 1]:
                if 0 <= place < whole:
                    many = min(100, whole - place)
                    self.assertEqual(bed.letter(place), letter_at(book, 300, place))
                    self.assertEqual(bed.stretch(place, many), stretch(book, 300, place, many))

    def test_other_words_from_an_age_on(self):
        later = ("abaab", (("a", "baa"), ("b", "bb")))
        bed = Bed(GOLD)
        bed.turn_at(3, "a", "baa")
        bed.turn_at(3, "b", "bb")
        bed.grow(300)
        self.assertEqual(bed.length(), length(later, 297))
        self.assertEqual(bed.counts(), counts(later, 297))
        for place in [0, 10 ** 30, 10 ** 80 + 7, length(later, 297) - 100]:
            self.assertEqual(bed.letter(place), letter_at(later, 297, place))
            self.assertEqual(bed.stretch(place, 100), stretch(later, 297, place, 100))
        refused(self, "NoPlace", bed.letter, length(later, 297))

    def test_other_words_at_the_last_step(self):
        bed = Bed(MORSE)
        bed.turn_at(299, "a", "b")
        bed.turn_at(299, "b", "aa")
        bed.grow(300)
        # Half of the letters at age 299 are a, half are b.
        self.assertEqual(bed.length(), 3 * 2 ** 298)
        self.assertEqual(bed.counts(), [2 ** 299, 2 ** 298])
        elder = stretch(MORSE, 299, 2 ** 100, 20)
        # Ahead of an even place there are as many a as b.
        text = written(elder, (("a", "b"), ("b", "aa")), 1)
        self.assertEqual(bed.stretch(3 * 2 ** 99, len(text)), text)

    def test_marks_far_inside(self):
        for own, place in [(300, 10 ** 50 + 3), (200, 10 ** 40), (150, 12345), (0, 0)]:
            bed = Bed(GOLD)
            bed.grow(own)
            bed.mark("m", place)
            for present in [0, 1, 60, 149, 150, 151, 299, 300]:
                bed.back(bed.age())
                bed.grow(present)
                if present >= own:
                    self.assertEqual(bed.where("m"), heirs(GOLD, own, place, present - own))
                else:
                    self.assertEqual(bed.where("m"), (forebear(GOLD, own, place, own - present), 1))

    def test_more_letters_die_within_a_stretch_than_can_be_gone_through(self):
        bed = Bed(FULL)
        bed.turn_at(299, "d", "")
        bed.grow(299)
        refused(self, "TooLong", bed.row)
        self.assertEqual(bed.length(), 6 ** 299 + 2)
        self.assertEqual(bed.stretch(6 ** 299 - 2, 4), "dddx")
        bed.mark("last", 6 ** 299 + 1)
        bed.mark("inner", 10 ** 100)
        bed.grow(1)
        self.assertEqual(bed.row(), "xx")
        self.assertEqual(bed.stretch(0, 2), "xx")
        self.assertEqual(bed.where("last"), (1, 1))
        self.assertEqual(bed.where("inner"), (1, 0))
        self.assertEqual([bed.letter(0), bed.letter(1)], ["x", "x"])
        bed.turn_at(299, "x", "xdxdx")
        self.assertEqual(bed.row(), "xdxdxxdxdx")
        bed.back(300)
        self.assertEqual(bed.where("last"), (2, 1))
        self.assertEqual(bed.where("inner"), (1, 1))

    def test_rows_of_six_hundred_letters_and_one_more(self):
        bed = Bed(book_of("aaaaaaaaaab", [("a", "cccccc"), ("b", "b"), ("c", "cccccc"), ("d", "d")]))
        bed.turn_at(1, "c", "dddddd")
        bed.grow(1)
        self.assertEqual(len(bed.row()), 61)
        bed.grow(1)
        self.assertEqual(len(bed.row()), 361)
        just = Bed(book_of("aaaaaaaaaa", [("a", "aaaaaa"), ("b", "b")]))
        just.turn_at(1, "a", "bbbbb")
        just.turn_at(2, "b", "bb")
        just.grow(3)
        self.assertEqual(just.row(), "b" * 600)
        just = Bed(book_of("aaaaaaaaaab", [("a", "aaaaaa"), ("b", "b"), ("c", "c")]))
        just.turn_at(1, "a", "ccccc")
        just.turn_at(2, "c", "cc")
        just.grow(3)
        self.assertEqual(just.length(), 601)
        refused(self, "TooLong", just.row)
        # Rows before and behind may have as many letters as they like.
        just.turn_at(3, "c", "")
        just.grow(1)
        self.assertEqual(just.row(), "b")


class TestMarks(unittest.TestCase):
    def test_ages_and_places(self):
        bed = Bed(GOLD)
        bed.grow(2)
        self.assertIsNone(bed.mark("m", 1))
        self.assertEqual(bed.where("m"), (1, 1))
        bed.grow(2)
        # aba, abaab, abaababa: of b at 1 came a at 2, and ab of that at 3.
        self.assertEqual(bed.where("m"), (3, 2))
        bed.back(3)
        self.assertEqual(bed.where("m"), (0, 1))
        bed.back(1)
        self.assertEqual(bed.where("m"), (0, 1))
        self.assertIs(type(bed.where("m")), tuple)

    def test_put_anew(self):
        bed = Bed(GOLD)
        bed.grow(3)
        bed.mark("m", 4)
        bed.mark("n", 4)
        bed.grow(1)
        bed.mark("m", 0)
        self.assertEqual(bed.where("m"), (0, 1))
        bed.back(1)
        self.assertEqual(bed.where("m"), (0, 1))
        self.assertEqual(bed.where("n"), (4, 1))
        self.assertEqual(bed.marks(), ["m", "n"])

    def test_no_heirs(self):
        bed = Bed(("aba", (("a", "aa"), ("b", ""))))
        bed.mark("m", 1)
        bed.grow(1)
        self.assertEqual(bed.where("m"), (2, 0))
        bed.grow(1)
        self.assertEqual(bed.where("m"), (4, 0))
        bed.back(2)
        self.assertEqual(bed.where("m"), (1, 1))

    def test_no_such_place_any_more_and_again(self):
        bed = Bed(GOLD)
        bed.grow(3)
        bed.mark("m", 4)
        bed.mark("n", 0)
        bed.turn_at(1, "b", "")
        self.assertEqual(bed.row(), "ab")
        for present in range(6):
            bed.back(bed.age())
            bed.grow(present)
            self.assertIsNone(bed.where("m"))
            self.assertIsNotNone(bed.where("n"))
        self.assertEqual(bed.marks(), ["m", "n"])
        bed.undo(1, "b")
        bed.back(bed.age())
        bed.grow(3)
        self.assertEqual(bed.where("m"), (4, 1))
        bed.grow(1)
        self.assertEqual(bed.where("m"), (7, 1))
        # It keeps its place, be there another letter now: a, ab, bbba, aaabbb, bbbbbbbbbaaa.
        bed.turn_at(1, "a", "bbb")
        self.assertEqual(bed.row(), "bbbbbbbbbaaa")
        self.assertEqual(bed.where("m"), (10, 1))

    def test_a_mark_at_the_present_row_of_changed_words(self):
        bed = Bed(GOLD)
        bed.turn("a", "bab")
        bed.grow(1)
        bed.mark("mid", 1)
        bed.turn("a", "aaa")
        bed.grow(1)
        self.assertEqual(bed.row(), "aaaaa")
        self.assertEqual(bed.where("mid"), (1, 3))

    def test_names(self):
        bed = Bed(GOLD)
        for name in ["z", "abcdefgh", "m", "zz", "a"]:
            bed.mark(name, 0)
        self.assertEqual(bed.marks(), ["a", "abcdefgh", "m", "z", "zz"])

    def test_told_lists_are_the_askers_own(self):
        bed = Bed(GOLD)
        bed.mark("m", 0)
        bed.turn("a", "bb")
        for told in [bed.marks(), bed.turns(), bed.counts()]:
            told.append("x")
            told[0] = "y"
        self.assertEqual((bed.marks(), bed.turns(), bed.counts()), (["m"], [(0, "a", "bb")], [1, 0]))
        older = bed.turns()
        bed.turn("a", "a")
        self.assertEqual(older, [(0, "a", "bb")])


class TestRefused(unittest.TestCase):
    def setUp(self):
        self.bed = Bed(GOLD)
        self.bed.grow(4)
        self.bed.turn_at(2, "b", "bb")
        self.bed.mark("m", 3)
        self.ahead = self.stand()

    def stand(self):
        bed = self.bed
        return (bed.age(), bed.turns(), bed.marks(), bed.where("m"), bed.row(), bed.counts())

    def tearDown(self):
        self.assertEqual(self.stand(), self.ahead)

    def test_grow_and_back(self):
        for thing in no_ages(296):
            refused(self, "NoAge", self.bed.grow, thing)
        for thing in no_ages(4):
            refused(self, "NoAge", self.bed.back, thing)
        self.assertEqual(self.bed.grow(296), 300)
        for thing in no_numbers(0, 0):
            refused(self, "NoAge", self.bed.grow, thing)
        self.assertEqual(self.bed.grow(0), 300)
        self.assertEqual(self.bed.back(300), 0)
        for thing in no_numbers(0, 0):
            refused(self, "NoAge", self.bed.back, thing)
        self.assertEqual(self.bed.back(0), 0)
        self.bed.grow(4)

    def test_ages(self):
        for thing in no_ages():
            refused(self, "NoAge", self.bed.turn_at, thing, "a", "a")
            refused(self, "NoAge", self.bed.turn_at, thing, "z", None)
            refused(self, "NoAge", self.bed.undo, thing, "a")
            refused(self, "NoAge", self.bed.undo, thing, None)
            refused(self, "NoAge", self.bed.word, thing, "a")
            refused(self, "NoAge", self.bed.word, thing, "z")

    def test_letters(self):
        for thing in no_letters_of("ab"):
            refused(self, "NoLetter", self.bed.turn, thing, "a")
            refused(self, "NoLetter", self.bed.turn, thing, None)
            refused(self, "NoLetter", self.bed.turn_at, 7, thing, "aaaaaaa")
            refused(self, "NoLetter", self.bed.undo, 2, thing)
            refused(self, "NoLetter", self.bed.word, 2, thing)

    def test_words(self):
        for thing in no_words_of("ab"):
            refused(self, "NoWord", self.bed.turn, "a", thing)
            refused(self, "NoWord", self.bed.turn_at, 300, "b", thing)
        for word in ["", "a", "bababa"]:
            self.bed.turn_at(9, "a", word)
            self.assertEqual(self.bed.word(9, "a"), word)
        self.bed.undo(9, "a")

    def test_turns(self):
        for age, letter in [(0, "a"), (2, "a"), (3, "b"), (1, "b"), (300, "b")]:
            refused(self, "NoTurn", self.bed.undo, age, letter)
        self.bed.turn_at(5, "a", "b")
        self.bed.undo(5, "a")
        refused(self, "NoTurn", self.bed.undo, 5, "a")

    def test_places(self):
        whole = self.bed.length()
        for thing in no_places(whole - 1):
            refused(self, "NoPlace", self.bed.letter, thing)
            refused(self, "NoPlace", self.bed.mark, "m", thing)
            refused(self, "NoPlace", self.bed.mark, "n", thing)
        for thing in no_places(whole):
            refused(self, "NoPlace", self.bed.stretch, thing, 0)
            refused(self, "NoPlace", self.bed.stretch, thing, None)
        for thing in no_numbers(0, 100):
            refused(self, "NoNumber", self.bed.stretch, 0, thing)
            refused(self, "NoNumber", self.bed.stretch, whole, thing)
        refused(self, "NoPlace", self.bed.stretch, whole, 1)
        refused(self, "NoPlace", self.bed.stretch, 1, whole)
        self.assertEqual(self.bed.stretch(whole, 0), "")

    def test_names(self):
        for thing in no_names():
            refused(self, "NoMark", self.bed.mark, thing, 0)
            refused(self, "NoMark", self.bed.mark, thing, None)
            refused(self, "NoMark", self.bed.where, thing)
        for thing in ["n", "mm", "a", "abcdefgh"]:
            refused(self, "NoMark", self.bed.where, thing)

    def test_too_long(self):
        self.bed.grow(100)
        refused(self, "TooLong", self.bed.row)
        self.bed.back(100)


if __name__ == "__main__":
    unittest.main()
