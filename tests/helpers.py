"""What several test files need: odd things, written-out rows, and a check of which class a refusal has."""

import random

from linegrow import errors
from linegrow.books import book_of

CLASS_NAMES = [
    "NoBook", "NoAge", "NoLetter", "NoNumber", "NoPlace", "NoWay", "NoGroups", "NoWord", "NoTurn", "NoMark",
    "NoText", "NoRow", "TooLong", "TooMany", "NotKept", "TooFar", "NoName",
]


class Thorny:
    """Can't be compared, hashed, walked, measured or shown."""

    def refuse(self, *others):
        raise RuntimeError("touched")

    __eq__ = __hash__ = __len__ = __iter__ = __bool__ = __repr__ = __str__ = __getitem__ = __contains__ = refuse


def nested(depth):
    thing = []
    for step in range(depth):
        thing = [thing]
    return thing


def holding_itself():
    thing = []
    thing.append(thing)
    return thing


def odd_things():
    """Things that are no whole number, no text, no list of pairs and no book."""
    return [
        None, True, False, object(), Thorny(), b"a", {}, {"a": "a"}, {"a"}, frozenset(), [None], (None,), ((),),
        [[]], nested(30), holding_itself(), len, int, ValueError("a"), range(2), iter("a"), Ellipsis,
    ]


def no_ages(last=300):
    return odd_things() + [
        -1, last + 1, 10 ** 299, -(10 ** 299), -last, "", "0", "3", "a", [], [0], [3], (), (3,), bytearray(b"3"),
    ]


def no_numbers(least, most):
    """What is no whole number from least to most, of many kinds."""
    return odd_things() + [
        least - 1, most + 1, -most - 1, 10 ** 299, -(10 ** 299), "", "0", "1", "a", [], [1], (), (1,), bytearray(b"1"),
    ]


def no_letters_of(inside):
    """What is none of the letters `inside`, of many kinds; "aa" and the like are longer than a letter."""
    others = [sign for sign in "abcdefghijklmnopqrstuvwxyz" if sign not in inside]
    return odd_things() + others + [
        "", "aa", "ab", "abc", "A", "B", "1", ".", "-", " ", "\n", "a ", " a", "~", "\u00e9", "\u00aa",
        0, 1, 97, -1, 10 ** 299, [], ["a"], (), ("a",), ["a", "b"],
    ]


def written(first, rules, age):
    """The row at an age, by plain replacing; an own walk, to hold the program's answers against."""
    text = first
    for step in range(age):
        text = "".join(dict(rules)[letter] for letter in text)
    return text


def some_books(many, seed, longest_word=3, most_letters=8):
    """Books of all sizes, the same ones each time; the words are short enough for some ages to be written out."""
    chance = random.Random(seed)
    told = []
    for step in range(many):
        signs = chance.sample("abcdefghijklmnopqrstuvwxyz", chance.randint(1, most_letters))
        words = ["".join(chance.choices(signs, k=chance.randint(0, longest_word))) for sign in signs]
        first = "".join(chance.choices(signs, k=chance.randint(0, chance.choice([2, 12]))))
        told.append(book_of(first, list(zip(signs, words))))
    return told


def layered_books(many, seed):
    """Books in which words go on in small rings and else to letters further on, so that most grow as powers."""
    chance = random.Random(seed)
    told = []
    for step in range(many):
        signs = chance.sample("abcdefghijklmnopqrstuvwxyz", chance.randint(3, 8))
        words = {}
        begin = 0
        while begin < len(signs):
            end = min(begin + chance.choice([1, 1, 1, 2, 2, 3]), len(signs))
            ring = signs[begin:end]
            ringed = chance.random() < 0.7
            for place, sign in enumerate(ring):
                parts = chance.choices(signs[end:], k=chance.randint(0, 3)) if signs[end:] else []
                if ringed:
                    parts.insert(chance.randint(0, len(parts)), ring[(place + 1) % len(ring)])
                words[sign] = "".join(parts)
            begin = end
        told.append(book_of("".join(chance.choices(signs, k=chance.randint(0, 4))), list(words.items())))
    return told


def later_letters(book):
    """For each letter the letters that stand in its row at some age above 0, by closing the web step by step."""
    told = {letter: set(text) for letter, text in book[1]}
    for between in told:
        for letter in told:
            if between in told[letter]:
                told[letter] |= told[between]
    return told


def ring_texts(book):
    web = later_letters(book)
    told = {"".join(sorted(one for one in web if one in web[other] and other in web[one])) for other in web}
    return sorted(told - {""})


def refused(case, name, call, *args):
    """The call is refused with the class of that name and with none of the others."""
    try:
        call(*args)
    except errors.GrowError as error:
        case.assertIsInstance(error, ValueError)
        fitting = [each for each in CLASS_NAMES if isinstance(error, getattr(errors, each))]
        case.assertEqual(fitting, [name])
    else:
        case.fail("not refused with " + name)
