"""Tables, counts and lengths at ages of many figures, each divided by a number and what is left over told."""

from linegrow.books import letters
from linegrow.checks import need_far_age, need_number
from linegrow.sums import columns, paired_sum, table, tally


def left_over(line, number):
    return [entry % number for entry in line]


def line_product(line, sources, number):
    return left_over([paired_sum(line, source) for source in sources], number)


def product(lines, others, number):
    sources = columns(others)
    return [line_product(line, sources, number) for line in lines]


def led_through(book, lines, age, number):
    """Each line of counts as it is `age` ages later; the table is squared, so that great ages take few steps."""
    step = table(book)
    told = [left_over(line, number) for line in lines]
    rest = age
    while rest > 0:
        if rest % 2 == 1:
            told = product(told, step, number)
        step = product(step, step, number)
        rest = rest // 2
    return told


def table_at(book, age, number):
    need_far_age(age)
    need_number(number)
    return led_through(book, [tally(book, letter) for letter in letters(book)], age, number)


def counts_at(book, age, number):
    need_far_age(age)
    need_number(number)
    return led_through(book, [tally(book, book[0])], age, number)[0]


def length_at(book, age, number):
    return sum(counts_at(book, age, number)) % number
