"""Parting: where two rows part, shown by blocks that stand in both, without writing the rows down."""

from linegrow.checks import is_letter, is_tuple_of, is_whole, need_age
from linegrow.errors import TooMany
from linegrow.sums import length_sums
from linegrow.webs import spread

MOST_TOLD = 200
MOST_SHOWN = 400


def twins(one, other):
    same = [rule[0] for rule in one[1] if rule in other[1]]
    return "".join([letter for letter in same if all([sign in same for sign in spread(one, letter)])])


# What of a row stands from a place on, kept as tuples (letter, ages): elder letters, of whose heirs so many ages later
# it is put together. The last of them is the eldest letter that has the place as its first heir, since letters are
# unfolded only at their own first heir, and those without heirs are left out.
class Rest:
    def __init__(self, book, age):
        self.words = dict(book[1])
        self.sums = length_sums(book, age)
        self.waiting = []
        self.put(book[0], age)

    def put(self, text, ages):
        sizes = self.sums[ages]
        self.waiting.extend([(letter, ages) for letter in reversed(text) if sizes[letter] > 0])

    def unfold(self):
        eldest = self.waiting.pop()
        self.put(self.words[eldest[0]], eldest[1] - 1)

    def begins_with(self, block):
        while self.waiting and self.waiting[-1][1] > block[1]:
            self.unfold()
        return len(self.waiting) > 0 and self.waiting[-1] == block

    def go_behind(self):
        eldest = self.waiting.pop()
        return self.sums[eldest[1]][eldest[0]]


def next_block(ones, others, twinned):
    while True:
        left = ones.waiting[-1]
        right = others.waiting[-1]
        if left == right and (left[1] == 0 or left[0] in twinned):
            return left
        if left[1] == 0 and right[1] == 0:
            return None
        # What is elder than the other row's, or as old but unlike, is no block.
        eldest = max(left[1], right[1])
        if left[1] == eldest:
            ones.unfold()
        if right[1] == eldest:
            others.unfold()


def ending(ones, others):
    if ones.waiting:
        return "second"
    return "first" if others.waiting else "alike"


def parting(one, age, other, second):
    need_age(age)
    need_age(second)
    ones = Rest(one, age)
    others = Rest(other, second)
    twinned = twins(one, other)
    blocks = []
    place = 0
    while ones.waiting and others.waiting:
        block = next_block(ones, others, twinned)
        if block is None:
            return ("part", place, blocks)
        if len(blocks) == MOST_TOLD:
            raise TooMany("there are more than 200 blocks")
        blocks.append(block)
        place += ones.go_behind()
        others.go_behind()
    return (ending(ones, others), place, blocks)


def is_block(thing, twinned):
    if not is_tuple_of(thing, 2) or not is_letter(thing[0]) or not is_whole(thing[1]):
        return False
    return thing[1] == 0 or (thing[1] > 0 and thing[0] in twinned)


def shown(one, age, other, second, thing):
    need_age(age)
    need_age(second)
    if not isinstance(thing, list) or len(thing) > MOST_SHOWN:
        return None
    ones = Rest(one, age)
    others = Rest(other, second)
    twinned = twins(one, other)
    place = 0
    for block in thing:
        if not is_block(block, twinned) or not ones.begins_with(block) or not others.begins_with(block):
            return None
        place += ones.go_behind()
        others.go_behind()
    return place
