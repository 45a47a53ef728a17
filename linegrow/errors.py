"""The refusals: a class for each, so that one can be taken without taking another."""


class GrowError(ValueError):
    pass


class NoBook(GrowError):
    pass


class NoAge(GrowError):
    pass


class NoLetter(GrowError):
    pass


class NoNumber(GrowError):
    pass


class NoPlace(GrowError):
    pass


class NoWay(GrowError):
    pass


class NoGroups(GrowError):
    pass


class NoWord(GrowError):
    pass


class NoTurn(GrowError):
    pass


class NoMark(GrowError):
    pass


class NoText(GrowError):
    pass


class NoRow(GrowError):
    pass


class TooLong(GrowError):
    pass


class TooMany(GrowError):
    pass


class NotKept(GrowError):
    pass


class TooFar(GrowError):
    pass


class NoName(GrowError):
    def __init__(self, name):
        self.name = name
