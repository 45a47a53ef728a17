"""Webs: which letters a letter reaches, and the rings of letters that come again and again."""

from linegrow.books import letters, need_letter


def spread(book, text):
    words = dict(book[1])
    found = ""
    waiting = text
    while waiting:
        letter = waiting[0]
        waiting = waiting[1:]
        if letter not in found:
            found += letter
            waiting += words[letter]
    return "".join(sorted(found))


def reached(book, letter):
    need_letter(book, letter)
    return spread(book, letter)


def ring_of(book, letter):
    words = dict(book[1])
    # By the words, not by the letter itself, which would be reached at age 0: a letter of no ring is told "".
    return "".join([each for each in spread(book, words[letter]) if letter in spread(book, words[each])])


def rings(book):
    return [ring_of(book, letter) for letter in letters(book) if ring_of(book, letter)[:1] == letter]


def inside(text, ring):
    return [letter for letter in text if letter in ring]


def is_simple(book, ring):
    words = dict(book[1])
    return all([len(inside(words[letter], ring)) == 1 for letter in ring])


def path(book, letter, goals):
    # By letters as near as can be first, so that no letter is gone to twice.
    words = dict(book[1])
    paths = {letter: letter}
    waiting = [letter]
    while waiting[0] not in goals:
        last = waiting.pop(0)
        for sign in words[last]:
            if sign not in paths:
                paths[sign] = paths[last] + sign
                waiting.append(sign)
    return paths[waiting[0]]
