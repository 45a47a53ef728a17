"""Books alike: whether lengths, weights or counts of two books are the same for ever, and where they part."""

from linegrow.books import letters
from linegrow.checks import is_within
from linegrow.errors import NoNumber
from linegrow.sums import first_counts, first_lengths, first_weights
from linegrow.ties import tie

LONGEST_LAG = 40


def settling_ages(one, other):
    # No tie of both needs more numbers than this, so what is alike at so many ages in a row stays so.
    return len(one[1]) + len(other[1])


def first_unlike(ones, others):
    for place, pair in enumerate(zip(ones, others)):
        if pair[0] != pair[1]:
            return place
    return None


def told_alike(one, other, ones, others):
    age = first_unlike(ones, others)
    return ("alike", tie(one, other)) if age is None else ("part", age)


def lengths_alike(one, other):
    ages = settling_ages(one, other)
    return told_alike(one, other, first_lengths(one, ages), first_lengths(other, ages))


def weights_alike(one, weights, other, others):
    ages = settling_ages(one, other)
    return told_alike(one, other, first_weights(one, weights, ages), first_weights(other, others, ages))


def counts_by(book, line, signs):
    own = dict(zip(letters(book), line))
    return [own.get(sign, 0) for sign in signs]


def counts_alike(one, other):
    signs = sorted(set(letters(one) + letters(other)))
    ages = settling_ages(one, other)
    ones = [counts_by(one, line, signs) for line in first_counts(one, ages)]
    others = [counts_by(other, line, signs) for line in first_counts(other, ages)]
    age = first_unlike(ones, others)
    if age is None:
        return ("alike", tie(one, other))
    return ("part", age, signs[first_unlike(ones[age], others[age])])


def settled(one, other):
    ages = settling_ages(one, other)
    ones = first_lengths(one, ages + ages)
    others = first_lengths(other, ages + ages)
    # What is ever alike for good is so from this age on at the latest.
    if ones[ages:] != others[ages:]:
        return ("parted",)
    start = ages
    while start > 0 and ones[start - 1] == others[start - 1]:
        start -= 1
    return ("alike", start)


def lag(one, other, most):
    if not is_within(most, 0, LONGEST_LAG):
        raise NoNumber("a lag is sought up to a whole number from 0 to 40")
    ages = settling_ages(one, other)
    ones = first_lengths(one, most + ages)
    others = first_lengths(other, ages)
    for many in range(most + 1):
        if ones[many:many + ages] == others:
            return many
    return None
