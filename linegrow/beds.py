"""Beds: rows that grow by words which are told anew, taken back and told again, and marks that go with them."""

from linegrow.books import LONGEST_WORD, letters, need_letter
from linegrow.checks import LAST_AGE, is_name, is_text_of, is_within, need_age
from linegrow.errors import NoAge, NoMark, NoTurn, NoWord, TooLong
from linegrow.places import need_place, need_stretch, read, way_behind, worth_ahead
from linegrow.rows import LONGEST_ROW
from linegrow.sums import size_sums, text_sum


def one_age_later(numbers, spelling):
    told = dict([(letter, 0) for letter in numbers])
    for letter, number in numbers.items():
        for sign in spelling[letter]:
            told[sign] += number
    return told


# Words and marks are kept as they were told, and every answer is reckoned from them anew: so growing, going back and
# words told for other ages can't leave anything behind that is no longer so.
class Bed:
    def __init__(self, book):
        self.book = book
        self.present = 0
        self.said = {}
        self.spots = {}

    def age(self):
        return self.present

    def grow(self, many):
        if not is_within(many, 0, LAST_AGE - self.present):
            raise NoAge("a bed grows to age 300 at most")
        self.present += many
        return self.present

    def back(self, many):
        if not is_within(many, 0, self.present):
            raise NoAge("a bed goes back to age 0 at most")
        self.present -= many
        return self.present

    def turn(self, letter, word):
        self.turn_at(self.present, letter, word)

    def turn_at(self, age, letter, word):
        need_age(age)
        need_letter(self.book, letter)
        if not is_text_of(word, letters(self.book), LONGEST_WORD):
            raise NoWord("a word is a text of at most six letters of the book")
        self.said[(age, letter)] = word

    def undo(self, age, letter):
        need_age(age)
        need_letter(self.book, letter)
        if (age, letter) not in self.said:
            raise NoTurn("no word stands that was told for this letter with this age")
        self.said.pop((age, letter))

    def turns(self):
        return sorted([(told[0], told[1], self.said[told]) for told in self.said])

    def spellings(self, last):
        words = dict(self.book[1])
        told = []
        for age in range(last + 1):
            words = dict([(letter, self.said.get((age, letter), words[letter])) for letter in words])
            told.append(words)
        return told

    def word(self, age, letter):
        need_age(age)
        need_letter(self.book, letter)
        return self.spellings(age)[age][letter]

    def length(self):
        return sum(self.counts())

    def counts(self):
        numbers = dict([(letter, self.book[0].count(letter)) for letter in letters(self.book)])
        for spelling in self.spellings(self.present)[:-1]:
            numbers = one_age_later(numbers, spelling)
        return list(numbers.values())

    def letter(self, place):
        words = self.spellings(self.present)
        sums = size_sums(words)
        need_place(place, text_sum(self.book[0], sums[-1]) - 1)
        return way_behind(self.book[0], words, sums, place)[-1][0]

    def stretch(self, start, many):
        words = self.spellings(self.present)
        sums = size_sums(words)
        need_stretch(start, many, text_sum(self.book[0], sums[-1]))
        return read(self.book[0], words, sums, start, many)

    def row(self):
        words = self.spellings(self.present)
        sums = size_sums(words)
        many = text_sum(self.book[0], sums[-1])
        if many > LONGEST_ROW:
            raise TooLong("the row has more than 600 letters")
        return read(self.book[0], words, sums, 0, many)

    def mark(self, name, place):
        if not is_name(name):
            raise NoMark("a mark has a name of 1 to 8 small letters")
        need_place(place, self.length() - 1)
        self.spots[name] = (self.present, place)

    def where(self, name):
        if not is_name(name) or name not in self.spots:
            raise NoMark("there is no mark of this name")
        own = self.spots[name][0]
        place = self.spots[name][1]
        words = self.spellings(max(own, self.present))
        sums = size_sums(words[:own + 1])
        if place >= text_sum(self.book[0], sums[-1]):
            return None
        steps = way_behind(self.book[0], words, sums, place)[:self.present + 1]
        # Heirs are as many as come of the last step; a forebear, or the place itself, is come to at once and is one.
        sizes = size_sums(words[:self.present + 1])[self.present + 1 - len(steps):]
        return (worth_ahead(self.book[0], words, steps, sizes), sizes[0][steps[-1][0]])

    def marks(self):
        return sorted(self.spots)

    def twin(self):
        other = Bed(self.book)
        other.present = self.present
        other.said = dict(self.said)
        other.spots = dict(self.spots)
        return other
