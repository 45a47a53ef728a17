"""The looker: whether a paper shows how a letter grows, whoever wrote it."""

from linegrow.books import letters, need_letter
from linegrow.checks import is_letter, is_text_of, is_tuple_of, is_whole, is_within
from linegrow.sums import counts

LAST_TWICE = 16


def shows(book, letter, paper):
    need_letter(book, letter)
    if not isinstance(paper, tuple) or len(paper) == 0 or not isinstance(paper[0], str):
        return False
    if paper[0] == "dies" and len(paper) == 2:
        return shows_death(dict(book[1]), letter, paper[1])
    if paper[0] == "powers" and len(paper) == 4:
        return shows_powers(dict(book[1]), letter, paper)
    if paper[0] == "doubles" and len(paper) == 3:
        return shows_doubling(book, letter, paper[1], paper[2])
    return False


def is_entry(words, thing, size):
    if not is_tuple_of(thing, size) or not is_letter(thing[0]) or thing[0] not in words:
        return False
    return all([is_whole(number) for number in thing[1:]])


def listing(words, thing, size):
    # A wrong list is told as an empty one, which shows nothing, since the letter itself has to be listed.
    if not isinstance(thing, list) or not all([is_entry(words, entry, size) for entry in thing]):
        return {}
    told = dict([(entry[0], entry[1:]) for entry in thing])
    return told if len(told) == len(thing) else {}


def lists_all(words, listed, letter):
    return letter in listed and all([sign in listed for sign in "".join([words[each] for each in listed])])


def shows_death(words, letter, levels):
    listed = listing(words, levels, 2)
    return lists_all(words, listed, letter) and all([falls(words, listed, each) for each in listed])


def falls(words, listed, letter):
    # Tuples are compared by their first numbers, and where these are the same by the next ones.
    return all([listed[sign] < listed[letter] for sign in words[letter]])


def goes_on_once(words, listed, letter):
    own = listed[letter]
    others = [listed[sign] for sign in words[letter]]
    lesser = [other for other in others if other[0] < own[0]]
    return own[0] != -1 and others.count(own) == 1 and len(lesser) == len(others) - 1


def shows_powers(words, letter, paper):
    most = paper[1]
    if not is_whole(most) or most < 0 or not is_chain(words, letter, paper[2]) or len(paper[2]) != most + 1:
        return False
    listed = listing(words, paper[3], 3)
    if not lists_all(words, listed, letter) or listed[letter][0] > most:
        return False
    if any([listed[each][0] < -1 for each in listed]):
        return False
    return all([falls(words, listed, each) or goes_on_once(words, listed, each) for each in listed])


def is_chain(words, letter, thing):
    if not isinstance(thing, list) or len(thing) == 0 or not all([is_link(words, link) for link in thing]):
        return False
    follow = [leaves_ring(words, thing[place][0], thing[place + 1][1]) for place in range(len(thing) - 1)]
    return thing[0][1][0] == letter and all(follow)


def is_link(words, thing):
    if not is_tuple_of(thing, 2) or not is_way(words, thing[0]) or not is_way(words, thing[1]):
        return False
    ring = thing[0]
    return len(set(ring)) == len(ring) and ring[0] in words[ring[-1]] and thing[1][-1] in ring


def is_way(words, thing):
    if not isinstance(thing, str) or len(thing) == 0 or not is_text_of(thing, words, len(thing)):
        return False
    return all([thing[place + 1] in words[thing[place]] for place in range(len(thing) - 1)])


def leaves_ring(words, ring, way):
    onward = ring[1] if len(ring) > 1 else ring[0]
    # One place is the one by which the ring goes on; where the way begins with that letter it needs another.
    least = 2 if way[0] == onward else 1
    return words[ring[0]].count(way[0]) >= least


def shows_doubling(book, letter, way, age):
    if not is_way(dict(book[1]), way) or way[0] != letter or not is_within(age, 1, LAST_TWICE):
        return False
    own = letters(book).index(way[-1])
    return counts((way[-1], book[1]), age)[own] > 1
