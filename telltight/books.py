"""From how few members of a book a saying follows, and which members it can spare (points 16 and 17)."""

from telltight.follows import follows


def lists_of_places(many, few):
    found = [[]]
    for step in range(few):
        longer = []
        for places in found:
            first = places[-1] + 1 if len(places) > 0 else 0
            longer.extend([places + [place] for place in range(first, many)])
        found = longer
    return found


def follows_from(n, book, places, saying):
    return follows(n, [book[place] for place in places], saying)


def tried_lists(n, book, few, saying):
    # What is told of each list of so few places, in order, up to one from which the saying follows.
    tried = []
    for places in lists_of_places(len(book), few):
        told = follows_from(n, book, places, saying)
        tried.append((places, told))
        if told[0]:
            return tried
    return tried


def fewest(n, book, saying):
    if not follows(n, book, saying)[0]:
        return None
    few = 0
    tables = []
    tried = tried_lists(n, book, few, saying)
    # It comes to an end: the saying follows from the list of all places.
    while not tried[-1][1][0]:
        few += 1
        tables = [(places, told[1]) for places, told in tried]
        tried = tried_lists(n, book, few, saying)
    return (tried[-1][0], tried[-1][1][1], tables)


def follows_from_others(n, book, places, place):
    others = [other for other in places if other != place]
    return follows_from(n, book, others, book[place])[0]


def spare(n, book):
    places = list(range(len(book)))
    return [place for place in places if follows_from_others(n, book, places, place)]


def thinned(n, book):
    left = list(range(len(book)))
    for place in range(len(book) - 1, -1, -1):
        if follows_from_others(n, book, left, place):
            left.remove(place)
    return left
