import copy
import random
import unittest

from helpers import Thorny, holding_itself, layered_books, nested, no_letters_of, odd_things, refused, some_books
from linegrow.books import book_of, letters
from linegrow.kinds import kind
from linegrow.looker import shows
from linegrow.papers import paper
from linegrow.sums import counts

NONE = ("", ())
GOLD = ("a", (("a", "ab"), ("b", "a")))
DYING = book_of("a", [("a", "bcb"), ("b", "c"), ("c", ""), ("d", "a")])
STEPS = book_of("c", [("a", "a"), ("b", "ba"), ("c", "cb"), ("x", ""), ("y", "xcx")])
# A ring of two letters, of which a alone leads to the ring cd (by x, which leads nowhere else).
PAIRS = book_of("a", [("a", "bx"), ("b", "a"), ("x", "c"), ("c", "d"), ("d", "c")])
DOUBLES = book_of("a", [("a", "bb"), ("b", "c"), ("c", "a"), ("d", "da")])
TWICE = ("a", (("a", "aa"),))
# Ways round of 8 and of 7 letters: a stands twice in its own row at age 15 for the first time.
ROUND = book_of("a", [("a", "bc")] + [(sign, after) for sign, after in zip("bcdefgh", "cdefgha")])
# From y a ring that has none behind it is nearer than the one that has.
NEAR = book_of("y", [("y", "am"), ("m", "n"), ("n", "pa"), ("p", "n"), ("a", "a")])
BOOKS = [GOLD, DYING, STEPS, PAIRS, DOUBLES, TWICE, ROUND, NEAR] + layered_books(100, 35)
BOOKS = BOOKS + some_books(80, 31) + some_books(100, 32, 2) + some_books(40, 33, 1) + some_books(20, 34, 6)


def whole(thing):
    return type(thing) is int


def row_of(book, thing):
    return type(thing) is str and thing != "" and set(thing) <= set(letters(book))


def steps_right(words, text):
    return all(after in words[sign] for sign, after in zip(text, text[1:]))


def holds(book, letter, thing):
    """The clauses of the point, one by one, an own reading to hold the looker against."""
    words = dict(book[1])
    if type(thing) is not tuple or not thing or type(thing[0]) is not str:
        return False
    if thing[0] == "dies" and len(thing) == 2:
        return holds_dies(words, letter, thing[1])
    if thing[0] == "powers" and len(thing) == 4:
        power, chain, ranks = thing[1:]
        if not whole(power) or power < 0 or type(chain) is not list or len(chain) != power + 1:
            return False
        return holds_chain(book, letter, chain) and holds_ranks(words, letter, power, ranks)
    if thing[0] == "doubles" and len(thing) == 3:
        way, age = thing[1:]
        if not row_of(book, way) or way[0] != letter or not steps_right(words, way):
            return False
        if not whole(age) or age not in range(1, 17):
            return False
        return dict(zip(letters(book), counts((way[-1], book[1]), age)))[way[-1]] >= 2
    return False


def holds_dies(words, letter, levels):
    if type(levels) is not list:
        return False
    for entry in levels:
        if type(entry) is not tuple or len(entry) != 2 or type(entry[0]) is not str or entry[0] not in words:
            return False
        if not whole(entry[1]):
            return False
    names = [entry[0] for entry in levels]
    if len(set(names)) != len(names) or letter not in names:
        return False
    for name, number in levels:
        for sign in words[name]:
            if sign not in names or not dict(levels)[sign] < number:
                return False
    return True


def holds_chain(book, letter, chain):
    words = dict(book[1])
    for place, part in enumerate(chain):
        if type(part) is not tuple or len(part) != 2 or not row_of(book, part[0]) or not row_of(book, part[1]):
            return False
        ring, way = part
        if len(set(ring)) != len(ring) or not steps_right(words, ring + ring[0]):
            return False
        if not steps_right(words, way) or way[-1] not in ring:
            return False
        if place == 0 and way[0] != letter:
            return False
        if place > 0:
            ahead = chain[place - 1][0]
            rest = list(words[ahead[0]])
            rest.remove((ahead + ahead)[1])
            if way[0] not in rest:
                return False
    return True


def holds_ranks(words, letter, power, ranks):
    if type(ranks) is not list:
        return False
    for entry in ranks:
        if type(entry) is not tuple or len(entry) != 3 or type(entry[0]) is not str or entry[0] not in words:
            return False
        if not whole(entry[1]) or not whole(entry[2]) or entry[1] < -1:
            return False
    rank = {name: number for name, number, height in ranks}
    height = {name: number for name, between, number in ranks}
    if len(rank) != len(ranks) or letter not in rank or rank[letter] > power:
        return False
    for name in rank:
        if any(sign not in rank for sign in words[name]):
            return False
        below = [rank[sign] < rank[name] for sign in words[name]]
        lower = [rank[sign] == rank[name] and height[sign] < height[name] for sign in words[name]]
        level = [rank[sign] == rank[name] and height[sign] == height[name] for sign in words[name]]
        first = all(one or other for one, other in zip(below, lower))
        second = rank[name] != -1 and sum(level) == 1 and all(one or other for one, other in zip(below, level))
        if not first and not second:
            return False
    return True


class TestPaper(unittest.TestCase):
    def test_of_every_letter_is_shown(self):
        for book in BOOKS:
            for letter in letters(book):
                told = paper(book, letter)
                self.assertIs(shows(book, letter, told), True)
                self.assertTrue(holds(book, letter, told))
                self.assertEqual(told[0], kind(book, letter)[0])
                if told[0] == "powers":
                    self.assertEqual(told[1], kind(book, letter)[1])

    def test_a_letter_that_comes_twice_late(self):
        self.assertTrue(all(counts(ROUND, age)[0] < 2 for age in range(15)))
        for letter in letters(ROUND):
            self.assertIs(shows(ROUND, letter, paper(ROUND, letter)), True)

    def test_no_letter(self):
        for book in [NONE, GOLD, STEPS]:
            for thing in no_letters_of(letters(book)):
                refused(self, "NoLetter", paper, book, thing)

    def test_told_lists_are_the_askers_own(self):
        for book, letter in [(DYING, "a"), (STEPS, "y")]:
            kept = copy.deepcopy(paper(book, letter))
            told = paper(book, letter)
            for part in told[1:]:
                if type(part) is list:
                    part.reverse()
                    part.append(None)
            self.assertEqual(paper(book, letter), kept)


class TestDies(unittest.TestCase):
    def test_good_ones(self):
        for levels in [
            [("a", 3), ("b", 2), ("c", 1)], [("c", 1), ("b", 2), ("a", 3)], [("a", 10 ** 299), ("b", 0), ("c", -7)],
            [("a", 3), ("b", 2), ("c", 1), ("d", 4)], [("a", 0), ("b", -1), ("c", -2)],
        ]:
            self.assertIs(shows(DYING, "a", ("dies", levels)), True)
        self.assertIs(shows(DYING, "c", ("dies", [("c", 0)])), True)
        self.assertIs(shows(DYING, "c", ("dies", [("c", 5), ("b", 6)])), True)

    def test_a_level_that_does_not_fall(self):
        for levels in [
            [("a", 2), ("b", 2), ("c", 1)], [("a", 1), ("b", 2), ("c", 0)], [("a", 3), ("b", 1), ("c", 1)],
            [("a", 3), ("b", 2), ("c", 1), ("d", 3)], [("a", 3), ("b", 2), ("c", 2)],
        ]:
            self.assertIs(shows(DYING, "a", ("dies", levels)), False)

    def test_letters_twice_or_not_listed(self):
        for levels in [
            [], [("a", 3)], [("b", 2), ("c", 1)], [("a", 3), ("b", 2)], [("a", 3), ("c", 1)],
            [("a", 3), ("b", 2), ("c", 1), ("c", 1)], [("a", 3), ("a", 4), ("b", 2), ("c", 1)],
            [("a", 3), ("b", 2), ("c", 1), ("z", 0)], [("a", 3), ("b", 2), ("c", 1), ("", 0)],
        ]:
            self.assertIs(shows(DYING, "a", ("dies", levels)), False)

    def test_a_letter_that_does_not_die(self):
        for number in [0, 1, -1, 10 ** 299]:
            self.assertIs(shows(STEPS, "a", ("dies", [("a", number)])), False)

    def test_other_kinds(self):
        right = [("a", 3), ("b", 2), ("c", 1)]
        for thing in odd_things() + [tuple(right), [list(entry) for entry in right], {"a": 3, "b": 2, "c": 1}, "abc", 3]:
            self.assertIs(shows(DYING, "a", ("dies", thing)), False)
        for place in range(3):
            for number in [True, False, "1", None, [1], (1,), Thorny()]:
                spoilt = list(right)
                spoilt[place] = (right[place][0], number)
                self.assertIs(shows(DYING, "a", ("dies", spoilt)), False)
            for entry in odd_things() + ["a3", ("a",), (), ("a", 3, 3), ["a", 3], (3, "a"), (["a"], 3), ("ab", 3)]:
                spoilt = list(right)
                spoilt[place] = entry
                self.assertIs(shows(DYING, "a", ("dies", spoilt)), False)


class TestPowers(unittest.TestCase):
    CHAIN = [("c", "c"), ("b", "b"), ("a", "a")]
    RANKS = [("a", 0, 0), ("b", 1, 0), ("c", 2, 0)]

    def tell(self, told, letter, power, chain, ranks, book=STEPS):
        self.assertIs(shows(book, letter, ("powers", power, chain, ranks)), told)

    def test_good_ones(self):
        self.tell(True, "c", 2, self.CHAIN, self.RANKS)
        self.tell(True, "c", 2, self.CHAIN, self.RANKS[::-1])
        self.tell(True, "c", 2, [("c", "ccc"), ("b", "bb"), ("a", "aaaa")], self.RANKS)
        self.tell(True, "b", 1, self.CHAIN[1:], self.RANKS[:2])
        self.tell(True, "b", 1, self.CHAIN[1:], self.RANKS)
        self.tell(True, "a", 0, self.CHAIN[2:], self.RANKS[:1])
        self.tell(True, "c", 2, self.CHAIN, [("a", 0, 9), ("b", 1, -10 ** 299), ("c", 2, 3)])

    def test_the_number(self):
        for power in [0, 1, 3, -1, 10 ** 299, True, False, "2", None, [2]]:
            self.tell(False, "c", power, self.CHAIN, self.RANKS)
        self.tell(False, "c", 1, self.CHAIN[:2], self.RANKS)
        self.tell(False, "c", 0, self.CHAIN[:1], self.RANKS)
        self.tell(False, "c", -1, [], self.RANKS)
        self.tell(False, "c", 3, self.CHAIN + [("a", "a")], self.RANKS)
        self.tell(False, "c", 3, [("c", "c")] + self.CHAIN, [("a", 0, 0), ("b", 1, 0), ("c", 3, 0)])

    def test_truths_for_numbers(self):
        self.tell(True, "b", 1, self.CHAIN[1:], self.RANKS[:2])
        self.tell(False, "b", True, self.CHAIN[1:], self.RANKS[:2])
        self.tell(False, "a", False, self.CHAIN[2:], self.RANKS[:1])
        self.tell(False, "b", 1, self.CHAIN[1:], [("a", False, 0), ("b", 1, 0)])
        self.tell(False, "b", 1, self.CHAIN[1:], [("a", 0, False), ("b", 1, 0)])
        self.tell(False, "b", 1, self.CHAIN[1:], [("a", 0, 0), ("b", True, 0)])

    def test_rings(self):
        for ring in ["", "a", "b", "cb", "bc", "cc", "x", "z", "C", " ", "ca"]:
            self.tell(False, "c", 2, [(ring, "c")] + self.CHAIN[1:], self.RANKS)
        for ring in ["", "aa", "ba", "b", "ab"]:
            self.tell(False, "b", 1, [("b", "b"), (ring, "a")], self.RANKS)

    def test_ways(self):
        for way in ["", "b", "bc", "cb", "ca", "cba", "z", "y", "C", "c "]:
            self.tell(False, "c", 2, [("c", way)] + self.CHAIN[1:], self.RANKS)
        for way in ["", "c", "a", "cb", "ba", "ab"]:
            self.tell(False, "c", 2, [("c", "c"), ("b", way), ("a", "a")], self.RANKS)

    def test_a_way_from_a_letter_ahead_of_the_ring(self):
        ranks = self.RANKS + [("x", -1, 0), ("y", 2, 1)]
        chain = [("c", "yc")] + self.CHAIN[1:]
        self.tell(True, "y", 2, chain, ranks)
        self.tell(True, "y", 2, [("c", "yccc")] + self.CHAIN[1:], ranks)
        self.tell(False, "y", 2, self.CHAIN, ranks)
        self.tell(False, "y", 2, [("c", "yb")] + self.CHAIN[1:], ranks)
        self.tell(False, "y", 2, chain, ranks[:3] + ranks[4:])
        self.tell(False, "y", 2, chain, ranks[:4])

    def test_a_way_that_begins_where_the_ring_goes_on(self):
        # All but this clause holds: a goes on as itself, at one place.
        self.tell(False, "a", 1, [("a", "a"), ("a", "a")], [("a", 1, 0)])
        self.tell(False, "a", 1, [("a", "a"), ("a", "a")], [("a", 0, 0)])
        self.tell(True, "a", 0, [("a", "a")], [("a", 0, 0)])
        # In a ring of two its second letter is the one that goes on.
        ranks = [("a", 1, 0), ("b", 1, 0), ("x", 0, 1), ("c", 0, 0), ("d", 0, 0)]
        self.tell(False, "a", 1, [("ab", "a"), ("ab", "b")], ranks, PAIRS)
        self.tell(False, "a", 1, [("ab", "a"), ("ba", "b")], ranks, PAIRS)
        self.tell(True, "a", 1, [("ab", "a"), ("cd", "xc")], ranks, PAIRS)

    def test_the_same_letter_twice_in_the_word(self):
        # The chain may then go round by the other place, but what doubles has no ranks.
        for ranks in [[("a", 1, 0)], [("a", 0, 0)], [("a", -1, 0)]]:
            self.tell(False, "a", 1, [("a", "a"), ("a", "a")], ranks, TWICE)
        # Twice the same letter beside the ring's own next one.
        book = book_of("", [("a", "bab"), ("b", "b")])
        ranks = [("a", 1, 0), ("b", 0, 0)]
        self.tell(True, "a", 1, [("a", "a"), ("b", "b")], ranks, book)

    def test_where_the_ring_begins(self):
        ranks = [("a", 1, 0), ("b", 1, 0), ("x", 0, 1), ("c", 0, 0), ("d", 0, 0)]
        for last in ["cd", "dc"]:
            self.tell(True, "a", 1, [("ab", "a"), (last, "xc")], ranks, PAIRS)
            self.tell(True, "a", 1, [("ab", "ab"), (last, "xcd")], ranks, PAIRS)
            self.tell(True, "b", 1, [("ab", "b"), (last, "xcd")], ranks, PAIRS)
            self.tell(False, "a", 1, [("ba", "a"), (last, "xc")], ranks, PAIRS)
            self.tell(False, "a", 1, [("ab", "a"), (last, "c")], ranks, PAIRS)
            self.tell(False, "a", 1, [("ab", "a"), (last, "x")], ranks, PAIRS)
        for ring in ["c", "d", "cdc", "cdcd", "cx", "xcd"]:
            self.tell(False, "a", 1, [("ab", "a"), (ring, "xc")], ranks, PAIRS)

    def test_ranks_at_their_edges(self):
        chain = [("c", "yc")] + self.CHAIN[1:]
        base = self.RANKS

        def y(told, dead, own, ranks=base):
            self.tell(told, "y", 2, chain, ranks + [("x",) + dead, ("y",) + own])

        y(True, (-1, 0), (2, 1))
        y(True, (-1, 50), (2, 10 ** 299))
        # The same rank and height at one place, lesser ranks at the others.
        y(True, (-1, 0), (2, 0))
        y(True, (1, 99), (2, 0))
        # A greater height at one place, or the same one at more than one.
        y(False, (-1, 0), (2, -1))
        y(False, (2, 0), (2, 0))
        # The same rank with a lesser height beside the same rank and height.
        y(False, (2, -1), (2, 0))
        y(True, (2, 0), (2, 1))
        y(True, (2, -1), (2, 1))
        y(False, (2, 2), (2, 1))
        # A greater rank in the word.
        y(False, (3, 0), (2, 5))
        y(False, (-1, 0), (1, 5))
        # More than the number of the paper, though all falls.
        y(False, (-1, 0), (3, 0))
        y(False, (-2, 0), (2, 1))
        y(False, (-10 ** 299, 0), (2, 1))

    def test_two_places_of_the_same_rank_and_height(self):
        book = book_of("", [("a", "a"), ("m", "aa"), ("n", "xax"), ("x", "")])
        for own, told in [((0, 1), True), ((0, 0), False), ((0, -1), False)]:
            self.tell(told, "m", 0, [("a", "ma")], [("a", 0, 0), ("m",) + own], book)
        for own, told in [((0, 1), True), ((0, 0), True), ((0, -1), False)]:
            self.tell(told, "n", 0, [("a", "na")], [("a", 0, 0), ("x", -1, 0), ("n",) + own], book)

    def test_the_rank_below_nought_does_not_go_on(self):
        chain = self.CHAIN[2:]
        self.tell(False, "a", 0, chain, [("a", -1, 0)])
        self.tell(True, "a", 0, chain, [("a", 0, 0), ("x", -1, 0)])
        self.tell(False, "a", 0, chain, [("a", 0, 0), ("x", -2, 0)])
        book = book_of("", [("a", "ax"), ("w", "x"), ("x", "")])
        for own, told in [((-1, 1), True), ((-1, 0), False), ((0, 0), True)]:
            self.tell(told, "a", 0, [("a", "a")], [("a", 0, 0), ("x", -1, 0), ("w",) + own], book)

    def test_ranks_listed(self):
        self.tell(False, "c", 2, self.CHAIN, [])
        for left_out in range(3):
            self.tell(False, "c", 2, self.CHAIN, self.RANKS[:left_out] + self.RANKS[left_out + 1:])
        self.tell(False, "c", 2, self.CHAIN, self.RANKS + [("a", 0, 0)])
        self.tell(False, "c", 2, self.CHAIN, self.RANKS + [("c", 2, 0)])
        self.tell(False, "c", 2, self.CHAIN, self.RANKS + [("z", 0, 0)])
        self.tell(False, "c", 2, self.CHAIN, self.RANKS + [("y", 2, 1)])
        self.tell(True, "c", 2, self.CHAIN, self.RANKS + [("y", 2, 1), ("x", 0, 0)])

    def test_other_kinds(self):
        for thing in odd_things() + [tuple(self.CHAIN), [list(part) for part in self.CHAIN], "cba", 3, []]:
            self.tell(False, "c", 2, thing, self.RANKS)
        for thing in odd_things() + [tuple(self.RANKS), [list(part) for part in self.RANKS], "cba", 3, []]:
            self.tell(False, "c", 2, self.CHAIN, thing)
        for thing in odd_things() + ["2", "", (), [], (2,)]:
            self.tell(False, "c", thing, self.CHAIN, self.RANKS)
        for place in range(3):
            for thing in odd_things() + ["cc", ("c",), ("c", "c", "c"), (["c"], "c"), ("c", ["c"]), ("c", 1), 7]:
                self.tell(False, "c", 2, self.CHAIN[:place] + [thing] + self.CHAIN[place + 1:], self.RANKS)
            for thing in odd_things() + ["a00", ("a", 0), ("a", 0, 0, 0), ["a", 0, 0], (0, 0, "a"), ("a", 0, "0"), 7]:
                self.tell(False, "c", 2, self.CHAIN, self.RANKS[:place] + [thing] + self.RANKS[place + 1:])


class TestDoubles(unittest.TestCase):
    def tell(self, told, letter, way, age, book=DOUBLES):
        self.assertIs(shows(book, letter, ("doubles", way, age)), told)

    def test_ages(self):
        for age in range(-1, 20):
            self.tell(age in (3, 6, 9, 12, 15), "a", "a", age)
            self.tell(1 <= age <= 16, "a", "a", age, TWICE)
            self.tell(2 <= age <= 16, "a", "a", age, GOLD)
        self.assertGreater(counts(("a", TWICE[1]), 17)[0], 2)
        self.tell(True, "a", "a", 15, ROUND)
        self.tell(False, "a", "a", 14, ROUND)

    def test_ways(self):
        for way in ["a", "ab", "abc", "abca", "abcabcab"]:
            self.tell(True, "a", way, 3)
        for way in ["", "b", "bca", "ac", "ba", "aa", "abd", "da", "z", "az", "A", "a "]:
            self.tell(False, "a", way, 3)
        self.tell(True, "d", "da", 3)
        self.tell(True, "d", "ddddab", 6)
        self.tell(False, "d", "d", 3)
        self.tell(False, "d", "db", 3)

    def test_other_kinds(self):
        for thing in odd_things() + ["3", "", [3], (3,), 10 ** 299, -(10 ** 299)]:
            self.tell(False, "a", "a", thing)
        self.tell(False, "a", "a", True, TWICE)
        for thing in odd_things() + [3, ["a"], ("a",), [], ()]:
            self.tell(False, "a", thing, 3)

    def test_what_does_not_double(self):
        for age in range(1, 17):
            for way in ["c", "cb", "cba", "cc"]:
                self.tell(False, "c", way, age, STEPS)


class TestWhateverThing(unittest.TestCase):
    def test_things_of_other_kinds(self):
        wrong = odd_things() + [
            0, 1, "", "dies", "doubles", [], (), ("dies",), ("powers",), ("doubles",), ("dies", [], []), ("", []),
            ["dies", [("c", 0)]], ["doubles", "a", 3], ("Dies", [("c", 0)]), (b"dies", [("c", 0)]), (None, [("c", 0)]),
            (["dies"], [("c", 0)]), ("powers", 0, [("c", "c")]), ("doubles", "c"), ("doubles", "c", 3, 3),
            ("powers", [("c", 0)]), ("dies", "c", 3), (Thorny(), []), (Thorny(), Thorny(), Thorny()),
            ("dies", Thorny()), ("powers", 0, Thorny(), Thorny()), ("doubles", Thorny(), 1), nested(30),
            ("dies", holding_itself()), ("powers", 0, holding_itself(), holding_itself()), ("dies", nested(29)),
        ]
        for book in [DYING, STEPS, DOUBLES]:
            for thing in wrong:
                self.assertIs(shows(book, "c", thing), False)

    def test_papers_of_another_kind(self):
        for book in BOOKS[:60]:
            for letter in letters(book):
                for other in letters(book):
                    if kind(book, other)[:2] != kind(book, letter)[:2] or kind(book, letter)[0] == "dies":
                        told = paper(book, other)
                        self.assertIs(shows(book, letter, told), holds(book, letter, told))
                    if kind(book, other)[0] != kind(book, letter)[0]:
                        self.assertIs(shows(book, letter, paper(book, other)), False)

    def test_no_letter_goes_ahead(self):
        for book in [NONE, GOLD]:
            for thing in no_letters_of(letters(book)):
                for told in [None, ("doubles", "a", 3), Thorny(), ("dies", [])]:
                    refused(self, "NoLetter", shows, book, thing, told)

    def test_handed_papers_stay(self):
        for book, letter in [(DYING, "a"), (STEPS, "y"), (DOUBLES, "d")]:
            told = paper(book, letter)
            kept = copy.deepcopy(told)
            shows(book, letter, told)
            self.assertEqual(told, kept)


class TestSpoilt(unittest.TestCase):
    """Papers spoilt somewhere, the same ones each time, held against the own reading and against the kind."""

    def spoil(self, chance, book, thing):
        if type(thing) in (list, tuple) and thing and chance.random() < 0.85:
            parts = list(thing)
            place = chance.randrange(len(parts))
            change = chance.random()
            if change < 0.8:
                parts[place] = self.spoil(chance, book, parts[place])
            elif change < 0.87:
                parts.pop(place)
            elif change < 0.94:
                parts.insert(place, parts[chance.randrange(len(parts))])
            else:
                return parts if type(thing) is tuple else tuple(parts)
            return type(thing)(parts)
        if type(thing) is int and chance.random() < 0.9:
            return chance.choice([thing + 1, thing - 1, thing + 2, -thing, 0, -1, True, False])
        if type(thing) is str and chance.random() < 0.9:
            sign = chance.choice(letters(book))
            place = chance.randint(0, len(thing))
            return chance.choice([thing[:place] + sign + thing[place:], thing[:place] + thing[place + 1:],
                                  thing[:place] + sign + thing[place + 1:], thing[::-1], sign])
        return chance.choice([None, [], (), 1, "a", ("a", 1), "dies", "powers", "doubles", [("a", 1)]])

    def test_spoilt_papers(self):
        chance = random.Random(41)
        seen = {True: 0, False: 0}
        for book in BOOKS:
            for letter in letters(book):
                for step in range(12):
                    told = self.spoil(chance, book, paper(book, letter))
                    if chance.random() < 0.3:
                        told = self.spoil(chance, book, told)
                    answer = shows(book, letter, told)
                    self.assertIs(answer, holds(book, letter, told), (book, letter, told))
                    seen[answer] += 1
                    if answer:
                        self.assertEqual(told[0], kind(book, letter)[0])
                        self.assertTrue(told[0] != "powers" or told[1] == kind(book, letter)[1])
        self.assertGreater(min(seen.values()), 300)


if __name__ == "__main__":
    unittest.main()
