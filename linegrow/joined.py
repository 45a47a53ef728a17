"""Letters joined: which ones do alike, by groups, and books in which one letter stands for all that do."""

from linegrow.books import letters, need_letter
from linegrow.errors import NoGroups
from linegrow.rows import replaced


def need_groups(book, groups):
    if not isinstance(groups, list) or not all([isinstance(group, str) and len(group) > 0 for group in groups]):
        raise NoGroups("groups are a list of texts, none of them empty")
    # Joined and put in order, they are the letters of the book, no letter twice and none left out.
    if "".join(sorted("".join(groups))) != letters(book):
        raise NoGroups("groups have each letter of the book just once")


def group_numbers(groups):
    told = {}
    for number, group in enumerate(groups):
        for letter in group:
            told[letter] = number
    return told


def differ(words, numbers, pair):
    return numbers[pair[0]] != numbers[pair[1]] or len(words[pair[0]]) != len(words[pair[1]])


def way_apart(book, groups, letter, second):
    words = dict(book[1])
    numbers = group_numbers(groups)
    ways = {(letter, second): []}
    waiting = [(letter, second)]
    # Pairs wait by how many places lead to them, then by the places: the first that differs has the way to be told.
    while waiting:
        pair = waiting.pop(0)
        if differ(words, numbers, pair):
            return ways[pair]
        for place, beyond in enumerate(zip(words[pair[0]], words[pair[1]])):
            if beyond not in ways:
                ways[beyond] = ways[pair] + [place]
                waiting.append(beyond)
    return None


def alike_with(book, groups, letter):
    return "".join([each for each in letters(book) if way_apart(book, groups, letter, each) is None])


def classes(book, groups):
    need_groups(book, groups)
    told = [alike_with(book, groups, letter) for letter in letters(book)]
    return sorted(set(told))


def apart(book, groups, letter, second):
    need_groups(book, groups)
    need_letter(book, letter)
    need_letter(book, second)
    return way_apart(book, groups, letter, second)


def shrunk(book, groups):
    need_groups(book, groups)
    firsts = dict([(letter, alike_with(book, groups, letter)[0]) for letter in letters(book)])
    rules = [(rule[0], replaced(rule[1], firsts)) for rule in book[1] if firsts[rule[0]] == rule[0]]
    return (replaced(book[0], firsts), tuple(rules))
