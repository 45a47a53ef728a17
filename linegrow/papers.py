"""Papers: for each letter one that shows how it grows."""

from linegrow.kinds import kind, ring_depths
from linegrow.looker import LAST_TWICE
from linegrow.sums import single_sums
from linegrow.webs import inside, path, reached, ring_of


def paper(book, letter):
    told = kind(book, letter)
    if told[0] == "dies":
        return ("dies", [(each, kind(book, each)[1]) for each in reached(book, letter)])
    if told[0] == "powers":
        return ("powers", told[1], chain(book, letter), ranks(book, letter))
    return doubling_paper(book, letter)


def ring_from(book, letter):
    words = dict(book[1])
    ring = ring_of(book, letter)
    told = letter
    while len(told) < len(ring):
        told += inside(words[told[-1]], ring)[0]
    return told


def exits(book, letter, depths):
    # From a letter one less deep all rings behind this one can still be come to.
    return [sign for sign in dict(book[1])[letter] if depths[sign] == depths[letter] - 1]


def link(book, begin, depths):
    # A ring as deep as the letter is the first one of a chain that can't be longer.
    goals = [each for each in reached(book, begin) if ring_of(book, each) and depths[each] == depths[begin]]
    steps = path(book, begin, goals)
    ring = ring_from(book, steps[-1])
    # The last ring has nothing deep behind it, and may begin anywhere.
    if depths[begin] > 1:
        ring = ring_from(book, [each for each in ring if exits(book, each, depths)][0])
    return (ring, steps)


def chain(book, letter):
    depths = ring_depths(book)
    told = [link(book, letter, depths)]
    while len(told) < depths[letter]:
        begin = exits(book, told[-1][0][0], depths)[0]
        told.append(link(book, begin, depths))
    return told


def height_by(book, letter, depths, heights):
    # A letter of a ring goes on as one that lies as it does; each other one lies above those that are as deep.
    if ring_of(book, letter):
        return 0
    word = dict(book[1])[letter]
    return 1 + max([heights[sign] for sign in word if depths[sign] == depths[letter]], default=0)


def ranks(book, letter):
    depths = ring_depths(book)
    listed = reached(book, letter)
    heights = dict([(each, 0) for each in listed])
    # As with the depths: each round settles what hangs on settled letters alone.
    for step in listed:
        heights = dict([(each, height_by(book, each, depths, heights)) for each in listed])
    return [(each, depths[each] - 1, heights[each]) for each in listed]


def twice_age(book, letter):
    for age, sums in enumerate(single_sums(book, LAST_TWICE, letter)):
        if sums[letter] > 1:
            return age
    return None


def doubling_paper(book, letter):
    # A ring letter with two ring letters in its word comes back by each of them in at most 8 ages, and so twice by
    # going the one way round and then the other, in either order, in at most 16.
    goals = [each for each in reached(book, letter) if twice_age(book, each) is not None]
    steps = path(book, letter, goals)
    return ("doubles", steps, twice_age(book, steps[-1]))
