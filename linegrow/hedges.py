"""Hedges: the kept rows of a wide book whose first row is changed, letter by letter."""

from linegrow.books import LONGEST_FIRST
from linegrow.checks import is_letter, is_within
from linegrow.errors import NoAge, NoLetter, TooLong
from linegrow.places import need_place
from linegrow.wide import LAST_WIDE_AGE, next_parts, starts_of, total


def need_any_letter(letter):
    if not is_letter(letter):
        raise NoLetter("this is no letter")


def heirs_of(parts, start, end, place):
    inner = parts[start:end]
    return (total(parts[:start]), total(inner)) if inner else (place, 0)


class Hedge:
    def __init__(self, wide):
        self.rules = wide[1]
        self.kept = [list(wide[0])]

    def age(self):
        return len(self.kept) - 1

    def grow(self):
        if self.age() == LAST_WIDE_AGE:
            raise NoAge("a hedge keeps no age beyond 40")
        self.kept.append(next_parts(self.rules, self.kept[-1]))
        return self.age()

    def parts_kept(self, age):
        if not is_within(age, 0, self.age()):
            raise NoAge("the hedge doesn't keep this age")
        return self.kept[age]

    def row(self, age):
        return "".join(self.parts_kept(age))

    def starts(self, age):
        return starts_of(self.parts_kept(age))

    def exchange(self, place, letter):
        first = self.kept[0]
        need_place(place, len(first) - 1)
        need_any_letter(letter)
        return self.plant(first[:place] + [letter] + first[place + 1:], place, 1)

    def put_in(self, place, letter):
        first = self.kept[0]
        need_place(place, len(first))
        need_any_letter(letter)
        if len(first) == LONGEST_FIRST:
            raise TooLong("the first row has at most twelve letters")
        return self.plant(first[:place] + [letter] + first[place:], place, 1)

    def take_out(self, place):
        first = self.kept[0]
        need_place(place, len(first) - 1)
        return self.plant(first[:place] + first[place + 1:], place, 0)

    def plant(self, first, place, fresh):
        kept = [first]
        # A row may turn out too long, so the hedge takes the new rows only when it has them all.
        while len(kept) < len(self.kept):
            kept.append(next_parts(self.rules, kept[-1]))
        self.kept = kept
        # At each age what was changed can be seen one letter of the first row further to either side.
        return [heirs_of(parts, max(place - age, 0), place + age + fresh, place) for age, parts in enumerate(kept)]

    def now(self):
        return ("".join(self.kept[0]), self.rules)

    def twin(self):
        other = Hedge(self.now())
        other.kept = list(self.kept)
        return other
