"""Ties: by which fixed sums of earlier counts, lengths or weights all later ones come."""

from linegrow.books import letters, need_letter
from linegrow.checks import is_whole, need_far_age, need_number
from linegrow.errors import NoNumber
from linegrow.sums import column, first_counts, first_weights, paired_sum

LONGEST_TIE = 16


def is_whole_list(thing):
    return isinstance(thing, list) and len(thing) <= LONGEST_TIE and all([is_whole(number) for number in thing])


def counts_of_both(one, other, many):
    if other is None:
        return first_counts(one, many)
    return [mine + yours for mine, yours in zip(first_counts(one, many), first_counts(other, many))]


def tie(one, other=None):
    most = len(one[1]) + (0 if other is None else len(other[1]))
    return least_tie(counts_of_both(one, other, most + 1))


def is_tie(thing, one, other=None):
    if not is_whole_list(thing):
        return False
    lines = counts_of_both(one, other, len(thing) + 1)
    last = lines[len(thing)]
    return last == [paired_sum(thing, column(lines, place)) for place in range(len(last))]


def least_tie(lines):
    # Beside each line stands how it is made of the handed ones; the first line that can be cleared of all those ahead
    # of it so tells its tie. There is one: there are more lines than a line has numbers.
    width = len(lines[0])
    cleared = []
    entries = marked(lines, 0)
    while any(entries[:width]):
        cleared.append((entries, [place for place in range(width) if entries[place] != 0][0]))
        entries = clear(marked(lines, len(cleared)), cleared)
    own = width + len(cleared)
    return [-entry // entries[own] for entry in entries[width:own]]


def marked(lines, number):
    return lines[number] + [1 if place == number else 0 for place in range(len(lines))]


def clear(entries, cleared):
    told = entries
    divisor = 1
    for line, place in cleared:
        told = less_share(told, line, place, divisor)
        divisor = line[place]
    return told


def less_share(entries, line, place, divisor):
    # All these numbers are determinants times the divisor, so that it goes in evenly and none grows beyond need.
    factor = entries[place]
    return [(entry * line[place] - factor * above) // divisor for entry, above in zip(entries, line)]


def weight_tie(book, weights):
    many = len(book[1])
    numbers = first_weights(book, weights, many + many)
    # As many numbers one behind another as there are letters settle all later ones, so what ties them ties all.
    return least_tie([numbers[age:age + many] for age in range(many + 1)])


def length_tie(book):
    return weight_tie(book, [1 for letter in letters(book)])


def count_tie(book, letter):
    need_letter(book, letter)
    return weight_tie(book, [1 if each == letter else 0 for each in letters(book)])


def unwound(c, starts, age, number):
    if not is_whole_list(c):
        raise NoNumber("c is a list of at most sixteen whole numbers")
    if not is_whole_list(starts) or len(starts) != len(c):
        raise NoNumber("starts is a list of as many whole numbers as c")
    need_far_age(age)
    need_number(number)
    if not c:
        return 0
    return paired_sum(shares_at(c, age, number), starts) % number


def shares_at(c, age, number):
    # How often each start goes into the number at a place is known at once for the place twice as far, and one on.
    shares = [1] + [0 for factor in c[1:]]
    for figure in figures_by_twos(age):
        shares = twice_as_far(shares, c, number)
        if figure == 1:
            shares = one_on(shares, c, number)
    return shares


def figures_by_twos(age):
    told = []
    rest = age
    while rest > 0:
        told.append(rest % 2)
        rest = rest // 2
    return list(reversed(told))


def one_on(shares, c, number):
    last = shares[-1]
    moved = [0] + shares[:-1]
    return [(share + last * factor) % number for share, factor in zip(moved, c)]


def twice_as_far(shares, c, number):
    # From the place on, each of the next ones has its own shares, and goes in as often as the start of its number.
    told = [0 for share in shares]
    beyond = shares
    for many in shares:
        told = [(share + many * more) % number for share, more in zip(told, beyond)]
        beyond = one_on(beyond, c, number)
    return told
