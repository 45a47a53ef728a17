import random
import unittest

from helpers import odd_things, refused, some_books
from linegrow import errors
from linegrow.alike import lengths_alike
from linegrow.beds import Bed
from linegrow.changed import beside, fast, later, mirrored, shed, thinned
from linegrow.desk import Desk
from linegrow.kinds import kind, row_kind
from linegrow.modular import length_at
from linegrow.parting import parting
from linegrow.pieces import rows_alike
from linegrow.places import letter_at, way
from linegrow.stretches import comes
from linegrow.sums import length
from linegrow.texts import show_book

GOLD = ("a", (("a", "ab"), ("b", "a")))
LINE = ("abc", (("a", "ab"), ("b", "b"), ("c", ""), ("d", "d")))
MORSE = ("a", (("a", "ab"), ("b", "ba")))

# For each first word: what stands behind it. B a book's name, P a bed's, W a name to put by, M a mark's name, N a
# number, L a letter, T a text of a book, S a word.
FORMS = {
    "book": "WT", "thin": "WB", "shed": "WB", "mirror": "WB", "later": "WBN", "fast": "WBN", "beside": "WBB",
    "bed": "WB", "turn": "PLS", "undo": "PNL", "mark": "PMN", "show": "B", "length": "BN", "mod": "BNN",
    "letter": "BNN", "way": "BNN", "kind": "BL", "grows": "B", "same": "BB", "rows": "BB", "part": "BNBN",
    "comes": "BS", "grow": "PN", "back": "PN", "size": "P", "at": "PN", "where": "PM",
}
GOOD = {"W": "new", "T": "a: a=a", "B": "gold", "P": "p", "M": "m", "N": "1", "L": "a", "S": "b"}


def words(*things):
    return " ".join(str(thing) for thing in things)


def full_desk():
    desk = Desk()
    for row in ["book gold a: a=ab b=a", "book line " + show_book(LINE), "book morse a: a=ab b=ba", "book none :",
                "bed p gold", "bed q line", "grow p 3", "mark p m 1", "turn p b bb"]:
        desk.say(row)
    return desk


def stand(desk):
    """All that a desk holds, by asking it."""
    told = []
    for name in ["gold", "line", "morse", "none", "new", "p", "q", "m", "a"]:
        for row in ["show " + name, "size " + name, "where " + name + " m", "grow " + name + " 0"]:
            try:
                told.append(desk.say(row))
            except ValueError as error:
                told.append(type(error).__name__)
    return told


class Case(unittest.TestCase):
    def setUp(self):
        self.desk = full_desk()

    def says(self, row, answer):
        told = self.desk.say(row)
        self.assertIs(type(told), str)
        self.assertEqual(told, answer, row)

    def refused(self, name, row):
        ahead = stand(self.desk)
        refused(self, name, self.desk.say, row)
        self.assertEqual(stand(self.desk), ahead)

    def lacks(self, name, row):
        ahead = stand(self.desk)
        refused(self, "NoName", self.desk.say, row)
        try:
            self.desk.say(row)
        except errors.NoName as error:
            self.assertEqual(error.name, name)
        self.assertEqual(stand(self.desk), ahead)


class TestBooks(Case):
    def test_made_and_shown(self):
        self.says("book x ab: a=ab b=", "ok")
        self.says("show x", "ab: a=ab b=")
        self.says("book x :", "ok")
        self.says("show x", ":")
        self.says("show none", ":")
        self.says("book abcdefgh z: z=zz", "ok")
        self.says("show abcdefgh", "z: z=zz")

    def test_changed_ones(self):
        for row, book in [
            ("thin x line", thinned(LINE)), ("shed x line", shed(LINE)), ("mirror x line", mirrored(LINE)),
            ("later x gold 4", later(GOLD, 4)), ("later x gold 0", GOLD), ("fast x gold 2", fast(GOLD, 2)),
            ("fast x gold 1", GOLD), ("beside x gold gold", beside(GOLD, GOLD)), ("thin x none", ("", ())),
            ("beside x gold none", GOLD), ("mirror x gold", mirrored(GOLD)),
        ]:
            self.says(row, "ok")
            self.says("show x", show_book(book))

    def test_beside_has_the_first_rows_in_their_order(self):
        self.says("book x b: b=b", "ok")
        self.says("book y a: a=a", "ok")
        self.says("beside z x y", "ok")
        self.says("show z", "ba: a=a b=b")
        self.says("beside z y x", "ok")
        self.says("show z", "ab: a=a b=b")

    def test_put_by_a_name_again(self):
        self.says("thin line line", "ok")
        self.says("show line", show_book(thinned(LINE)))
        self.says("beside gold gold gold", "ok")
        self.says("show gold", "aa: a=ab b=a")

    def test_refused_as_the_stages_do(self):
        for row in ["later x gold 5", "later x gold 300", "later gold gold 5", "fast x gold 4", "fast x gold 8"]:
            self.refused("TooLong", row)
        for number in [301, 999, 10 ** 299]:
            self.refused("NoAge", f"later x gold {number}")
        for number in [0, 9, 10 ** 299]:
            self.refused("NoNumber", f"fast x gold {number}")
        self.refused("NoBook", "beside x gold morse")
        self.refused("NoBook", "beside x line gold")

    def test_texts_that_are_none(self):
        for text in ["", " ", "a", ": ", "a:", "a: a=a ", " a: a=a", "a:  a=a", "a: b=b a=a", "a: a=a b=b c=d", "-",
                     "new a: a=a", "a: a=aaaaaaa", "a: a=A", "  ", "a a a a a", "gold"]:
            self.refused("NoText", "book x " + text)
            self.refused("NoText", "book gold " + text)
        for row in ["book", "book x", "book ", "book  ", "book  :", "book  a: a=a", "book X :", "book abcdefghi :",
                    "book x1 :", "book : x", " book x :", "Book x :"]:
            self.refused("NoRow", row)


class TestAsked(Case):
    def test_books(self):
        books = {"gold": GOLD, "line": LINE, "morse": MORSE, "none": ("", ())}
        for name, book in books.items():
            for age in [0, 1, 7, 300]:
                self.says(f"length {name} {age}", str(length(book, age)))
            self.says(f"grows {name}", words(*row_kind(book)))
            for letter, text in book[1]:
                self.says(f"kind {name} {letter}", words(*kind(book, letter)))
            for age, number in [(0, 1), (7, 10), (10 ** 60 - 1, 10 ** 30 - 1), (12345, 7)]:
                self.says(f"mod {name} {age} {number}", str(length_at(book, age, number)))
        for place in [0, 7, 10 ** 60]:
            self.says(f"letter gold 300 {place}", letter_at(GOLD, 300, place))
            steps = way(GOLD, 300, place)
            self.says(f"way gold 300 {place}", " ".join(f"{letter} {index}" for letter, index in steps))

    def test_known_answers(self):
        self.says("length gold 4", "8")
        self.says("mod gold 4 5", "3")
        self.says("mod gold 4 1", "0")
        self.says("letter gold 4 6", "b")
        self.says("way gold 2 2", "a 0 b 1 a 0")
        self.says("way gold 0 0", "a 0")
        self.says("kind line c", "dies 1")
        self.says("kind line a", "powers 1 1")
        self.says("kind gold a", "doubles")
        self.says("grows line", "powers 1 1")
        self.says("grows none", "dies 0")
        self.says("same gold gold", "alike 1 1")
        self.says("same none none", "alike")
        self.says("same gold morse", "part 2")
        self.says("rows gold gold", "alike a b")
        self.says("rows none none", "alike")
        self.says("rows gold morse", "part 2")
        self.says("rows gold none", "part 0")
        self.says("part gold 3 gold 300", "first 5")
        self.says("part gold 300 gold 3", "second 5")
        self.says("part gold 3 gold 3", "alike 5")
        self.says("part gold 2 morse 2", "part 2")
        self.says("comes gold aa", "3 2")
        self.says("comes gold bb", "never")
        self.says("comes gold zz", "never")

    def test_two_books(self):
        books = {"gold": GOLD, "line": LINE, "morse": MORSE, "none": ("", ())}
        for name, book in books.items():
            for second, other in books.items():
                told = lengths_alike(book, other)
                self.says(f"same {name} {second}", words(told[0], *(told[1] if told[0] == "alike" else told[1:])))
                told = rows_alike(book, other)
                self.says(f"rows {name} {second}", words(told[0], *(told[1] if told[0] == "alike" else told[1:])))
                told = parting(book, 3, other, 5)
                self.says(f"part {name} 3 {second} 5", words(*told[:2]))

    def test_stretches(self):
        for text in ["a", "b", "ab", "aa", "bb", "aba", "abab", "bbbb"]:
            told = comes(GOLD, text)
            self.says(f"comes gold {text}", "never" if told is None else words(*told))

    def test_refused_as_the_stages_do(self):
        for row in ["length gold 301", "letter gold 301 0", "way gold 301 0", f"mod gold {10 ** 60} 1",
                    "part gold 301 gold 0", "part gold 0 gold 301", "letter none 999 0"]:
            self.refused("NoAge", row)
        for row in ["letter gold 0 1", "way gold 4 8", f"letter gold 300 {10 ** 299}", "letter none 0 0"]:
            self.refused("NoPlace", row)
        for row in ["mod gold 0 0", f"mod gold 0 {10 ** 30}"]:
            self.refused("NoNumber", row)
        for letter in ["c", "z", "aa", "A", "-", "1", ".", "gold", "a="]:
            self.refused("NoLetter", "kind gold " + letter)
            self.refused("NoLetter", "kind none " + letter)
        for text in ["-", "abcde", "A", "a.", "1", "a-", "--"]:
            self.refused("NoWord", "comes gold " + text)
        self.says("book x a: a=bbbbbb b=cccccc c=dd d=", "ok")
        self.refused("TooLong", "comes x a")
        self.says("book x bcbddea: a=aca b=ad c=bdc d=db e=e", "ok")
        self.refused("TooMany", "comes x abcd")
        self.says("book x ab: a=ab b=a", "ok")
        self.says("book y ba: a=ab b=a", "ok")
        self.refused("TooMany", "part x 300 y 300")
        self.says("book x ab: a=ac b=b c=c", "ok")
        self.says("book y ab: a=a b=cb c=c", "ok")
        self.refused("TooMany", "rows x y")


class TestBeds(Case):
    def test_grown_and_asked(self):
        self.says("bed x gold", "ok")
        self.says("size x", "1")
        self.says("grow x 4", "4")
        self.says("size x", "8")
        self.says("at x 6", "b")
        self.says("back x 1", "3")
        self.says("size x", "5")
        self.says("grow x 297", "300")
        self.says("size x", str(length(GOLD, 300)))
        self.says(f"at x {10 ** 60}", letter_at(GOLD, 300, 10 ** 60))
        self.says("back x 300", "0")
        self.says("grow x 0", "0")
        self.says("back x 0", "0")

    def test_words_told_and_taken_back(self):
        self.says("bed x gold", "ok")
        self.says("grow x 2", "2")
        self.says("turn x b bb", "ok")
        self.says("grow x 1", "3")
        self.says("size x", "6")
        self.says("undo x 2 b", "ok")
        self.says("size x", "5")
        self.refused("NoTurn", "undo x 2 b")
        self.says("turn x a -", "ok")
        self.says("grow x 1", "4")
        self.says("size x", "2")
        self.says("undo x 3 a", "ok")
        self.says("size x", "8")

    def test_marks(self):
        self.says("bed x gold", "ok")
        self.says("grow x 2", "2")
        self.says("mark x m 1", "ok")
        self.says("mark x abcdefgh 2", "ok")
        self.says("where x m", "1 1")
        self.says("grow x 2", "4")
        self.says("where x m", "3 2")
        self.says("back x 4", "0")
        self.says("where x m", "0 1")
        self.says("turn x a a", "ok")
        self.says("where x m", "gone")
        self.says("where x abcdefgh", "gone")
        self.says("undo x 0 a", "ok")
        self.says("where x m", "0 1")
        self.refused("NoMark", "where x n")

    def test_beds_of_their_own(self):
        self.says("bed x gold", "ok")
        self.says("bed y gold", "ok")
        self.says("grow x 5", "5")
        self.says("size y", "1")
        # A bed put by the name again is a new one.
        self.says("bed x gold", "ok")
        self.says("size x", "1")
        self.says("grow x 0", "0")
        self.refused("NoMark", "where x m")

    def test_a_bed_keeps_its_book(self):
        self.says("bed x gold", "ok")
        self.says("book gold c: c=cc", "ok")
        self.says("grow x 4", "4")
        self.says("size x", "8")
        self.says("turn x a b", "ok")
        self.refused("NoLetter", "turn x c a")
        self.says("bed x gold", "ok")
        self.says("at x 0", "c")

    def test_two_shelves(self):
        self.says("book x a: a=aa", "ok")
        self.lacks("x", "size x")
        self.says("bed x gold", "ok")
        self.says("size x", "1")
        self.says("show x", "a: a=aa")
        self.says("bed x x", "ok")
        self.says("grow x 3", "3")
        self.says("size x", "8")
        self.says("length x 4", "16")
        self.says("book x :", "ok")
        self.says("size x", "8")
        self.lacks("p", "show p")
        self.lacks("gold", "size gold")

    def test_refused_as_the_stages_do(self):
        self.refused("NoAge", "grow p 298")
        self.refused("NoAge", f"grow p {10 ** 299}")
        self.refused("NoAge", "back p 4")
        self.refused("NoAge", "undo p 301 a")
        self.refused("NoAge", "undo p 301 zz")
        self.refused("NoLetter", "undo p 0 c")
        self.refused("NoLetter", "undo p 0 -")
        self.refused("NoTurn", "undo p 0 a")
        for letter in ["c", "aa", "A", "-", "1"]:
            self.refused("NoLetter", f"turn p {letter} a")
            self.refused("NoLetter", f"turn p {letter} C")
        for word in ["c", "aaaaaaa", "A", "a-", "--", "1", "a.b"]:
            self.refused("NoWord", "turn p a " + word)
        for place in [5, 10 ** 299]:
            self.refused("NoPlace", f"at p {place}")
            self.refused("NoPlace", f"mark p m {place}")
        self.refused("NoMark", "where p n")

    def test_as_a_bed_by_itself(self):
        chance = random.Random(901)
        for book in some_books(15, 902, 2, 3):
            self.says("book b " + show_book(book), "ok")
            self.says("bed b b", "ok")
            bed = Bed(book)
            signs = [letter for letter, text in book[1]]
            for step in range(15):
                letter = chance.choice(signs)
                word = "".join(chance.choices(signs, k=chance.randint(0, 2)))
                for row, call, things in chance.sample([
                    (f"grow b {step % 3}", bed.grow, (step % 3,)), ("back b 1", bed.back, (1,)),
                    (f"turn b {letter} {word or '-'}", bed.turn, (letter, word)),
                    (f"undo b {bed.age()} {letter}", bed.undo, (bed.age(), letter)),
                    ("mark b m 1", bed.mark, ("m", 1)), ("where b m", bed.where, ("m",)), ("size b", bed.length, ()),
                    ("at b 2", bed.letter, (2,)),
                ], 1):
                    self.both(row, call, things)

    def both(self, row, call, things):
        try:
            told = call(*things)
        except ValueError as error:
            refused(self, type(error).__name__, self.desk.say, row)
            return
        if told is None:
            answer = "gone" if row.startswith("where") else "ok"
        else:
            answer = words(*told) if isinstance(told, tuple) else str(told)
        self.says(row, answer)


class TestNoRow(Case):
    def rows(self):
        for first, form in FORMS.items():
            yield first, form, [GOOD[sign] for sign in form]

    def test_each_row_is_one(self):
        for first, form, things in self.rows():
            self.desk = full_desk()
            try:
                self.desk.say(words(first, *things))
            except ValueError as error:
                self.assertNotIsInstance(error, (errors.NoRow, errors.NoName))

    def test_too_few_and_too_many_words(self):
        for first, form, things in self.rows():
            for many in range(len(things)):
                self.refused("NoRow", words(first, *things[:many]))
            if first != "book":
                self.refused("NoRow", words(first, *things, "a"))
                self.refused("NoRow", words(first, *things, "1"))
                self.refused("NoRow", words(first, *things, *things))

    def test_words_of_no_signs(self):
        for first, form, things in self.rows():
            if first == "book":
                continue
            row = words(first, *things)
            self.refused("NoRow", row + " ")
            self.refused("NoRow", " " + row)
            for place in range(len(things)):
                self.refused("NoRow", words(first, *things[:place], "", *things[place:]))
                self.refused("NoRow", words(first, *things[:place], "", *things[place + 1:]))

    def test_names(self):
        for first, form, things in self.rows():
            for place, sign in enumerate(form):
                if sign in "WBPM":
                    for name in ["abcdefghi", "A", "aB", "a1", "1", "-", ".", "a_b", "a=", "\u00e9", "a\tb", "a\n"]:
                        self.refused("NoRow", words(first, *things[:place], name, *things[place + 1:]))

    def test_numbers(self):
        for first, form, things in self.rows():
            for place, sign in enumerate(form):
                if sign == "N":
                    for number in ["01", "00", "001", "-1", "+1", "-0", "1.0", "1e1", "a", "-", "1_0", "0x1", "1,",
                                   "1" * 301, "0" * 300, "\u0661", "\u00b2", "1\n", "\t1"]:
                        self.refused("NoRow", words(first, *things[:place], number, *things[place + 1:]))

    def test_numbers_of_300_figures(self):
        self.refused("NoAge", "length gold " + "1" * 300)
        self.refused("NoRow", "length gold " + "1" * 301)
        self.refused("NoAge", "length gold " + "9" * 300)
        self.says("length gold 0", "1")
        self.says("length gold 10", "144")

    def test_other_first_words(self):
        for row in ["", " ", "  ", "x", "Show gold", "SHOW gold", "shows gold", "sho gold", "gold", "ok", "row gold 1",
                    "say gold", "showgold", "show\tgold", "\nshow gold", "show gold\n", "newbook x", "make_book x :",
                    "bed", "ROWS", "twin p", "counts gold 1"]:
            self.refused("NoRow", row)

    def test_other_kinds(self):
        for thing in odd_things() + [0, 1, -1, 10 ** 299, [], ["show gold"], (), ("show gold",), b"show gold",
                                     bytearray(b"show gold"), ["show", "gold"]]:
            self.refused("NoRow", thing)

    def test_beside_a_name_by_which_nothing_stands(self):
        for row in ["show x y", "length x", "length x 01", "length x -1", "thin X x", "part x 1 y", "part x 1 Y 1",
                    "part x 1 y 01", "later new x 007", "mark x m 1 1", "mark x M 1", "where x 1", "turn x a ", "grow x a",
                    "beside new x", "at x " + "1" * 301]:
            self.refused("NoRow", row)


class TestNoName(Case):
    def test_each_name_that_must_stand(self):
        for first, form in FORMS.items():
            spots = [place for place, sign in enumerate(form) if sign in "BP"]
            things = [GOOD[sign] for sign in form]
            for place in spots:
                self.lacks("absent", words(first, *things[:place], "absent", *things[place + 1:]))
            if len(spots) == 2:
                one, other = spots
                both = list(things)
                both[one], both[other] = "first", "second"
                self.lacks("first", words(first, *both))
                both[one], both[other] = "zz", "aa"
                self.lacks("zz", words(first, *both))

    def test_a_new_name_need_not_stand(self):
        desk = Desk()
        self.assertEqual(desk.say("book a :"), "ok")
        self.assertEqual(desk.say("bed a a"), "ok")

    def test_an_empty_desk(self):
        self.desk = Desk()
        self.lacks("gold", "show gold")
        self.lacks("p", "size p")
        self.lacks("gold", "bed p gold")

    def test_ahead_of_what_the_stages_refuse(self):
        for row in ["length x 301", "later new x 999", "fast new x 0", "mod x 0 0", f"letter x {10 ** 299} {10 ** 299}",
                    "kind x zz", "comes x -", "comes x abcdefghijk", "grow x 999", "turn x zz -zz", "undo x 999 zz",
                    "mark x m 999", "at x 999", "where x m", "part gold 999 x 0", "part x 999 gold 999",
                    "beside new morse x", "same gold x", "rows x gold"]:
            self.lacks("x", row)

    def test_a_name_of_the_other_shelf(self):
        self.lacks("p", "length p 1")
        self.lacks("gold", "grow gold 1")
        self.lacks("p", "bed new p")
        self.lacks("line", "turn line a a")

    def test_what_is_made_is_not_there_ahead_of_it(self):
        self.lacks("new", "thin new new")
        self.lacks("new", "bed new new")
        self.lacks("new", "beside new gold new")


class TestDesks(Case):
    def test_desks_do_not_touch(self):
        one, other = Desk(), Desk()
        one.say("book a :")
        refused(self, "NoName", other.say, "show a")
        self.assertEqual(one.say("show a"), ":")

    def test_all_refusals_by_rows(self):
        seen = {}
        for row in ["beside x gold morse", "length gold 301", "kind gold z", "mod gold 0 0", "letter gold 0 9",
                    "turn p a z", "undo p 0 a", "where p z", "book x", "book x x", "later x gold 9", "show x"]:
            try:
                self.desk.say(row)
            except errors.GrowError as error:
                seen[type(error).__name__] = row
        self.assertEqual(sorted(seen), sorted([
            "NoBook", "NoAge", "NoLetter", "NoNumber", "NoPlace", "NoWord", "NoTurn", "NoMark", "NoRow", "NoText",
            "TooLong", "NoName",
        ]))


if __name__ == "__main__":
    unittest.main()
