import random
import unittest

from helpers import no_ages, odd_things, refused
from linegrow.hedges import Hedge
from linegrow.wide import is_wide, starts, wide_of, wide_row
from test_wide import GROWING, MIXED, NONE, last_age, plain_parts, some_wides

# Each letter looks at both sides, so a change spreads by one letter of the first row at each age.
SPREADING = ("aaaaaaa", (
    ("b", "a", "", "b"), ("", "a", "b", "b"), ("a", "a", "a", "aa"), ("", "b", "", "ab"),
))
# Ten letters, of each of which sixty come: just six hundred.
FULL = ("a" * 10, (("", "a", "", "bbbbb"), ("", "b", "", "cccccc"), ("", "c", "", "dd")))


def no_places(last):
    return odd_things() + [-1, last + 1, 10 ** 299, -(10 ** 299), "", "0", "a", [], [0], (), (0,)]


def no_letters():
    return odd_things() + ["", ".", "ab", "A", "1", " ", "-", "\n", "\u00e9", "\u00aa", 0, 1, [], ["a"], (), ("a",)]


def grown(wide, age):
    hedge = Hedge(wide)
    for step in range(age):
        hedge.grow()
    return hedge


def held(case, hedge, wide, age):
    """All that the hedge tells, against rows of the wide book that it has now."""
    case.assertEqual(hedge.age(), age)
    case.assertEqual(hedge.now(), wide)
    for each in range(age + 1):
        parts = plain_parts(wide, each)
        case.assertEqual(hedge.row(each), "".join(parts))
        case.assertEqual(hedge.starts(each), [len("".join(parts[:place])) for place in range(len(parts))])
    for each in [-1, age + 1]:
        refused(case, "NoAge", hedge.row, each)
        refused(case, "NoAge", hedge.starts, each)


def spans(wide, age, place, last):
    """What a change tells: for each age the heirs of the letters of first that lie that near to the place."""
    told = []
    for each in range(age + 1):
        parts = plain_parts(wide, each)
        near = [spot for spot in range(len(parts)) if place - each <= spot <= place + each + last]
        if near:
            told.append((len("".join(parts[:near[0]])), len("".join(parts[near[0]:near[-1] + 1]))))
        else:
            told.append((place, 0))
    return told


def changes(chance, first):
    """Each kind of change at a place by chance: its name, what is handed in, the new first row, where it ends."""
    letter = chance.choice("abcdz")
    spot = chance.randint(0, len(first))
    told = [("put_in", (spot, letter), first[:spot] + letter + first[spot:], 0)]
    if first:
        place = chance.randrange(len(first))
        told.append(("exchange", (place, letter), first[:place] + letter + first[place + 1:], 0))
        told.append(("exchange", (place, first[place]), first, 0))
        told.append(("take_out", (place,), first[:place] + first[place + 1:], -1))
    return told


def long(wide, age):
    return any(len("".join(plain_parts(wide, each))) > 600 for each in range(age + 1))


class TestDeeds(unittest.TestCase):
    def test_against_rows_of_the_wide_book(self):
        chance = random.Random(701)
        seen = {"put_in": 0, "exchange": 0, "take_out": 0, "grow": 0, "end": 0, "TooLong": 0, "full": 0}
        swift = [("aab", (("", "a", "", "aaaab"), ("a", "b", "", "ab"))), ("xaxa", GROWING[1]), FULL, GROWING] * 3
        for wide in some_wides(50, 702) + [NONE, MIXED, SPREADING] + swift:
            hedge = Hedge(wide)
            age = 0
            for step in range(20):
                if chance.random() < 0.5 and age < 40:
                    if long(wide, age + 1):
                        seen["end"] += 1
                        refused(self, "TooLong", hedge.grow)
                    else:
                        age += 1
                        self.assertEqual(hedge.grow(), age)
                        seen["grow"] += 1
                else:
                    name, things, first, last = chance.choice(changes(chance, wide[0]))
                    later = (first, wide[1])
                    if len(first) > 12 or long(later, age):
                        seen["full" if len(first) > 12 else "TooLong"] += 1
                        refused(self, "TooLong", getattr(hedge, name), *things)
                    else:
                        seen[name] += 1
                        self.changed(hedge, wide, later, age, name, things, last)
                        wide = later
                held(self, hedge, wide, age)
        self.assertGreater(min(seen.values()), 2, seen)

    def changed(self, hedge, wide, later, age, name, things, last):
        elder = [hedge.row(each) for each in range(age + 1)]
        told = getattr(hedge, name)(*things)
        self.assertIs(type(told), list)
        self.assertTrue(all(type(each) is tuple for each in told))
        self.assertEqual(told, spans(later, age, things[0], last))
        for each, (start, many) in enumerate(told):
            text = hedge.row(each)
            self.assertEqual(text[:start], elder[each][:start])
            behind = len(text) - start - many
            self.assertGreaterEqual(behind, 0)
            self.assertLessEqual(start + behind, len(elder[each]))
            self.assertEqual(text[start + many:], elder[each][len(elder[each]) - behind:])

    def test_at_each_place(self):
        for wide in [MIXED, SPREADING, ("a", MIXED[1]), ("ab", SPREADING[1])]:
            for place in range(len(wide[0]) + 1):
                for letter in "abz":
                    first = wide[0][:place] + letter + wide[0][place:]
                    hedge = grown(wide, 4)
                    self.changed(hedge, wide, (first, wide[1]), 4, "put_in", (place, letter), 0)
                    held(self, hedge, (first, wide[1]), 4)
                    if place < len(wide[0]):
                        first = wide[0][:place] + letter + wide[0][place + 1:]
                        hedge = grown(wide, 4)
                        self.changed(hedge, wide, (first, wide[1]), 4, "exchange", (place, letter), 0)
                        held(self, hedge, (first, wide[1]), 4)
                if place < len(wide[0]):
                    first = wide[0][:place] + wide[0][place + 1:]
                    hedge = grown(wide, 4)
                    self.changed(hedge, wide, (first, wide[1]), 4, "take_out", (place,), -1)
                    held(self, hedge, (first, wide[1]), 4)


class TestKnown(unittest.TestCase):
    def test_a_new_hedge(self):
        hedge = Hedge(MIXED)
        self.assertEqual((hedge.age(), hedge.row(0), hedge.starts(0)), (0, "abcab", [0, 1, 2, 3, 4]))
        self.assertEqual(hedge.now(), MIXED)
        self.assertIs(is_wide(hedge.now()), True)

    def test_what_is_told(self):
        hedge = grown(("abc", ()), 3)
        self.assertEqual(hedge.exchange(1, "z"), [(1, 1), (0, 3), (0, 3), (0, 3)])
        self.assertEqual(hedge.take_out(0), [(0, 0), (0, 1), (0, 2), (0, 2)])
        self.assertEqual(hedge.row(3), "zc")
        self.assertEqual(hedge.put_in(2, "y"), [(2, 1), (1, 2), (0, 3), (0, 3)])
        self.assertEqual(hedge.now(), ("zcy", ()))
        self.assertEqual(hedge.take_out(2), [(2, 0), (1, 1), (0, 2), (0, 2)])
        self.assertEqual(hedge.take_out(1), [(1, 0), (0, 1), (0, 1), (0, 1)])
        self.assertEqual(hedge.take_out(0), [(0, 0)] * 4)
        self.assertEqual(hedge.now(), NONE)
        self.assertEqual(hedge.put_in(0, "a"), [(0, 1)] * 4)

    def test_the_very_letter_that_stands_there(self):
        hedge = grown(SPREADING, 2)
        ahead = [hedge.row(age) for age in range(3)]
        told = hedge.exchange(3, "a")
        self.assertEqual(told, spans(SPREADING, 2, 3, 0))
        self.assertEqual([hedge.row(age) for age in range(3)], ahead)

    def test_growing_behind_a_change(self):
        hedge = grown(SPREADING, 2)
        hedge.exchange(3, "b")
        self.assertEqual(hedge.grow(), 3)
        self.assertEqual(hedge.row(3), wide_row(("aaabaaa", SPREADING[1]), 3))
        self.assertEqual(hedge.starts(3), starts(("aaabaaa", SPREADING[1]), 3))

    def test_to_the_last_age(self):
        hedge = grown(("abc", ()), 40)
        self.assertEqual(hedge.age(), 40)
        refused(self, "NoAge", hedge.grow)
        self.assertEqual(hedge.age(), 40)
        self.assertEqual(hedge.row(40), "abc")
        self.assertEqual(len(hedge.exchange(1, "z")), 41)
        refused(self, "NoAge", hedge.grow)

    def test_no_age_goes_ahead_of_too_long(self):
        rules = tuple(("", sign, "", sign + "z") for sign in "abcdefghijkl")
        hedge = grown(("abcdefghijkl", rules), 40)
        self.assertEqual(len(hedge.row(40)), 492)
        refused(self, "NoAge", hedge.grow)

    def test_told_lists_are_the_askers_own(self):
        hedge = grown(MIXED, 2)
        for told in [hedge.starts(0), hedge.starts(2)]:
            told.clear()
        told = hedge.exchange(0, "a")
        told[0] = None
        told.clear()
        held(self, hedge, MIXED, 2)
        elder = hedge.exchange(0, "a")
        kept = list(elder)
        hedge.grow()
        hedge.take_out(0)
        self.assertEqual(elder, kept)

    def test_hedges_of_one_wide_book_do_not_touch(self):
        one, other = Hedge(MIXED), Hedge(MIXED)
        one.grow()
        one.take_out(0)
        held(self, other, MIXED, 0)


class TestTwins(unittest.TestCase):
    def test_each_goes_its_own_way(self):
        hedge = grown(MIXED, 2)
        hedge.exchange(2, "a")
        first = ("abaab", MIXED[1])
        other = hedge.twin()
        self.assertIsInstance(other, Hedge)
        held(self, other, first, 2)
        hedge.grow()
        held(self, hedge, first, 3)
        held(self, other, first, 2)
        other.take_out(0)
        held(self, hedge, first, 3)
        held(self, other, ("baab", MIXED[1]), 2)
        hedge.put_in(0, "c")
        held(self, hedge, ("cabaab", MIXED[1]), 3)
        held(self, other, ("baab", MIXED[1]), 2)
        other.grow()
        other.grow()
        held(self, hedge, ("cabaab", MIXED[1]), 3)
        held(self, other, ("baab", MIXED[1]), 4)


    def test_a_twin_that_grows_at_once(self):
        hedge = grown(MIXED, 1)
        other = hedge.twin()
        self.assertEqual(other.grow(), 2)
        held(self, hedge, MIXED, 1)
        held(self, other, MIXED, 2)
        self.assertEqual(hedge.grow(), 2)
        self.assertEqual(hedge.grow(), 3)
        held(self, other, MIXED, 2)


class TestRefused(unittest.TestCase):
    def setUp(self):
        self.hedge = grown(MIXED, 3)

    def tearDown(self):
        held(self, self.hedge, MIXED, 3)

    def test_places(self):
        for thing in no_places(4):
            refused(self, "NoPlace", self.hedge.exchange, thing, "a")
            refused(self, "NoPlace", self.hedge.exchange, thing, None)
            refused(self, "NoPlace", self.hedge.take_out, thing)
        for thing in no_places(5):
            refused(self, "NoPlace", self.hedge.put_in, thing, "a")
            refused(self, "NoPlace", self.hedge.put_in, thing, "A")
        none = grown(NONE, 1)
        for thing in [0, 1, -1, True, None]:
            refused(self, "NoPlace", none.exchange, thing, "a")
            refused(self, "NoPlace", none.take_out, thing)

    def test_letters(self):
        for thing in no_letters():
            refused(self, "NoLetter", self.hedge.exchange, 0, thing)
            refused(self, "NoLetter", self.hedge.exchange, 4, thing)
            refused(self, "NoLetter", self.hedge.put_in, 5, thing)

    def test_ages(self):
        for thing in no_ages(3):
            refused(self, "NoAge", self.hedge.row, thing)
            refused(self, "NoAge", self.hedge.starts, thing)

    def test_a_thirteenth_letter(self):
        hedge = grown(("abcdefghijkl", ()), 2)
        for place in [0, 5, 12]:
            refused(self, "TooLong", hedge.put_in, place, "a")
            refused(self, "NoLetter", hedge.put_in, place, "")
        refused(self, "NoPlace", hedge.put_in, 13, "a")
        held(self, hedge, ("abcdefghijkl", ()), 2)
        hedge.take_out(3)
        hedge.put_in(11, "x")
        held(self, hedge, ("abcefghijklx", ()), 2)

    def test_a_kept_row_of_six_hundred_letters_and_one_more(self):
        hedge = grown(FULL, 3)
        self.assertEqual(len(hedge.row(3)), 600)
        for place in [0, 4, 10]:
            refused(self, "TooLong", hedge.put_in, place, "x")
            refused(self, "NoLetter", hedge.put_in, place, ".")
            held(self, hedge, FULL, 3)
        hedge.exchange(0, "x")
        held(self, hedge, ("x" + FULL[0][1:], FULL[1]), 3)
        refused(self, "TooLong", hedge.put_in, 11 - 1, "a")
        hedge.put_in(10, "x")
        self.assertEqual(len(hedge.row(3)), 542)
        refused(self, "TooLong", hedge.exchange, 10, "a")
        refused(self, "TooLong", hedge.exchange, 0, "a")
        held(self, hedge, ("x" + FULL[0][1:] + "x", FULL[1]), 3)

    def test_taking_out_may_be_too_long_as_well(self):
        # Without the x between them both a have a neighbour and grow.
        wide = wide_of("axa", [("a", "a", "", "aaaaaa"), ("", "a", "a", "aaaaaa")])
        hedge = grown(wide, 9)
        refused(self, "TooLong", hedge.take_out, 1)
        held(self, hedge, wide, 9)
        self.assertEqual(last_age(("aa", wide[1])), 3)
        hedge = grown(wide, 3)
        hedge.take_out(1)
        held(self, hedge, ("aa", wide[1]), 3)

    def test_growing_too_long(self):
        hedge = grown(("a" * 10 + "x", FULL[1]), 2)
        refused(self, "TooLong", hedge.grow)
        held(self, hedge, ("a" * 10 + "x", FULL[1]), 2)
        hedge.take_out(10)
        self.assertEqual(hedge.grow(), 3)
        self.assertEqual(hedge.row(3), "d" * 600)


if __name__ == "__main__":
    unittest.main()
