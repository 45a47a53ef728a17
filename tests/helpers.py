"""What several test files need: odd things, written-out rows, and a check of which class a refusal has."""

from linegrow import errors

CLASS_NAMES = [
    "NoBook", "NoAge", "NoLetter", "NoNumber", "NoPlace", "NoWay", "NoGroups", "NoWord", "NoTurn", "NoMark",
    "NoText", "NoRow", "TooLong", "TooMany", "NotKept", "TooFar", "NoName",
]


class Thorny:
    """Can't be compared, hashed, walked, measured or shown."""

    def refuse(self, *others):
        raise RuntimeError("touched")

    __eq__ = __hash__ = __len__ = __iter__ = __bool__ = __repr__ = __str__ = __getitem__ = __contains__ = refuse


def nested(depth):
    thing = []
    for step in range(depth):
        thing = [thing]
    return thing


def holding_itself():
    thing = []
    thing.append(thing)
    return thing


def odd_things():
    """Things that are no whole number, no text, no list of pairs and no book."""
    return [
        None, True, False, object(), Thorny(), b"a", {}, {"a": "a"}, {"a"}, frozenset(), [None], (None,), ((),),
        [[]], nested(30), holding_itself(), len, int, ValueError("a"), range(2), iter("a"), Ellipsis,
    ]


def no_ages(last=300):
    return odd_things() + [
        -1, last + 1, 10 ** 299, -(10 ** 299), -last, "", "0", "3", "a", [], [0], [3], (), (3,), bytearray(b"3"),
    ]


def no_letters_of(inside):
    """What is none of the letters `inside`, of many kinds; "aa" and the like are longer than a letter."""
    others = [sign for sign in "abcdefghijklmnopqrstuvwxyz" if sign not in inside]
    return odd_things() + others + [
        "", "aa", "ab", "abc", "A", "B", "1", ".", "-", " ", "\n", "a ", " a", "~", "\u00e9", "\u00aa",
        0, 1, 97, -1, 10 ** 299, [], ["a"], (), ("a",), ["a", "b"],
    ]


def written(first, rules, age):
    """The row at an age, by plain replacing; an own walk, to hold the program's answers against."""
    text = first
    for step in range(age):
        text = "".join(dict(rules)[letter] for letter in text)
    return text


def refused(case, name, call, *args):
    """The call is refused with the class of that name and with none of the others."""
    try:
        call(*args)
    except errors.GrowError as error:
        case.assertIsInstance(error, ValueError)
        fitting = [each for each in CLASS_NAMES if isinstance(error, getattr(errors, each))]
        case.assertEqual(fitting, [name])
    else:
        case.fail("not refused with " + name)
