"""Tables, counts and lengths at ages of many figures, each divided by a number and what is left over told."""

from linegrow.books import letters
from linegrow.checks import need_far_age, need_number
from linegrow.sums import columns, one_age_on, table, tally


def left_over(line, number):
    return [entry % number for entry in line]


def product(lines, others, number):
    sources = columns(others)
    return [left_over(one_age_on(line, sources), number) for line in lines]


def led_through(book, lines, age, number):
    # The table is squared again and again, so that an age takes as many steps as it has figures by twos.
    step = table(book)
    told = [left_over(line, number) for line in lines]
    rest = age
    while rest > 0:
        if rest % 2 == 1:
            told = product(told, step, number)
        step = product(step, step, number)
        rest = rest // 2
    return told


def table_at(book, age, number):
    need_far_age(age)
    need_number(number)
    return led_through(book, [tally(book, letter) for letter in letters(book)], age, number)


def counts_at(book, age, number):
    need_far_age(age)
    need_number(number)
    return led_through(book, [tally(book, book[0])], age, number)[0]


def length_at(book, age, number):
    return sum(counts_at(book, age, number)) % number
