"""Books changed: thinned, shed, later, faster, called otherwise, mirrored, and one beside another."""

from linegrow.books import LONGEST_FIRST, LONGEST_WORD, book_of, letters
from linegrow.checks import SMALL_LETTERS, is_text_of, is_within
from linegrow.errors import NoLetter, NoNumber, TooLong
from linegrow.kinds import ring_depths
from linegrow.places import stretch
from linegrow.rows import replaced
from linegrow.sums import length
from linegrow.webs import spread

FASTEST = 8


def without(text, left_out):
    return "".join([letter for letter in text if letter not in left_out])


def thinned(book):
    depths = ring_depths(book)
    dying = [letter for letter in depths if depths[letter] == 0]
    rules = [(rule[0], without(rule[1], dying)) for rule in book[1] if rule[0] not in dying]
    return (without(book[0], dying), tuple(rules))


def shed(book):
    kept = spread(book, book[0])
    return (book[0], tuple([rule for rule in book[1] if rule[0] in kept]))


def short_row(book, age, most):
    # Rows ahead of a short one may be too long to be written down, so it is reckoned, then read as a stretch.
    many = length(book, age)
    if many > most:
        raise TooLong("the row at that age is too long")
    return stretch(book, age, 0, many)


def later(book, age):
    return (short_row(book, age, LONGEST_FIRST), book[1])


def fast(book, many):
    if not is_within(many, 1, FASTEST):
        raise NoNumber("a book can be made faster by 1 to 8")
    rules = [(letter, short_row((letter, book[1]), many, LONGEST_WORD)) for letter in letters(book)]
    return (book[0], tuple(rules))


def called(book, names):
    many = len(book[1])
    if not is_text_of(names, SMALL_LETTERS, many) or len(set(names)) < many:
        raise NoLetter("the names are as many unlike letters as the book has")
    given = dict(zip(letters(book), names))
    return book_of(replaced(book[0], given), [(given[rule[0]], replaced(rule[1], given)) for rule in book[1]])


def backward(text):
    return "".join(reversed(text))


def mirrored(book):
    return (backward(book[0]), tuple([(rule[0], backward(rule[1])) for rule in book[1]]))


def beside(one, other):
    # A letter with two unlike words stands twice among these rules, and makes no book.
    rules = list(one[1]) + [rule for rule in other[1] if rule not in one[1]]
    return book_of(one[0] + other[0], rules)
