"""Heaps for the tests, the same ones each time, and what the tests reckon of them by sets of coins."""

import random
from itertools import product

from reckoning import groups, is_whole, names_of


def own_views(heap, g):
    return [view for name in sorted(names_of(g)) for view in heap[1][name]]


def own_places(heap, g):
    return [(name, number) for name in sorted(names_of(g)) for number in range(len(heap[1][name]))]


def all_faces(many):
    return [list(faces) for faces in product((0, 1), repeat=many)]


def own_seen_of(view, faces):
    return len([coin for coin in view if faces[coin] == 1]) % 2


def own_seen(heap, g, faces):
    return [own_seen_of(view, faces) for view in own_views(heap, g)]


def own_rank(views):
    """The greatest number of the views none of which the others of these settle."""
    left, rank = [frozenset(view) for view in views], 0
    while left:
        one = left.pop()
        if one:
            rank += 1
            coin = min(one)
            left = [other ^ one if coin in other else other for other in left]
    return rank


def own_knows(heap, g, view):
    views = own_views(heap, g)
    return own_rank(views) == own_rank(views + [view])


def own_coin_table(heap):
    return [own_rank(own_views(heap, g)) for g in groups(len(heap[1]))]


def own_known_holds(heap, g, view, answer):
    """Point 20, word by word."""
    word, told = answer
    if any(told.count(thing) != 1 for thing in told):
        return False
    if word == "known":
        if any(place not in own_places(heap, g) for place in told) or told != sorted(told):
            return False
        views = [heap[1][name][number] for name, number in told]
        return all(len([one for one in views if coin in one]) % 2 == (1 if coin in view else 0)
                   for coin in range(heap[0]))
    if word == "open":
        if any(coin not in list(range(heap[0])) for coin in told) or told != sorted(told):
            return False
        return all(len(set(one) & set(told)) % 2 == 0 for one in own_views(heap, g)) and len(
            set(view) & set(told)) % 2 == 1
    return False


def is_view(thing, many):
    fine = type(thing) is list and all(is_whole(coin) and 0 <= coin < many for coin in thing)
    return fine and thing == sorted(set(thing))


def is_heap(thing, names):
    """A heap of so many names, as point 19 tells."""
    if type(thing) is not tuple or len(thing) != 2 or not is_whole(thing[0]) or not 0 <= thing[0] <= 40:
        return False
    if type(thing[1]) is not list or len(thing[1]) != names:
        return False
    return all(type(views) is list and len(views) <= 40 and all(is_view(view, thing[0]) for view in views)
               for views in thing[1])


def random_view(many, chance):
    how = chance.randrange(4)
    if how == 0:
        return chance.sample(range(many), min(many, 1))
    share = chance.choice((0.1, 0.3, 0.5, 0.8))
    return [coin for coin in range(many) if chance.random() < share]


def sum_of_views(views, many):
    return [coin for coin in range(many) if len([view for view in views if coin in view]) % 2 == 1]


def random_views(many, most, before, chance):
    """Some views: fresh ones, ones like those before, sums of some, ones without coins."""
    found = []
    for _ in range(chance.choice((0, 1, 2, most, chance.randint(0, most)))):
        others = before + found
        how = chance.randrange(6)
        if how == 0 and others:
            found.append(list(chance.choice(others)))
        elif how == 1 and others:
            found.append(sum_of_views(chance.sample(others, min(len(others), 3)), many))
        elif how == 2 and chance.randrange(3) == 0:
            found.append([])
        else:
            found.append(random_view(many, chance))
    return found[:most]


def random_heap(names, many, most, chance):
    views = []
    for _ in range(names):
        before = [view for each in views for view in each]
        views.append(random_views(many, most, before, chance))
    return (many, views)


def heaps(seed, times, most_coins, most_views, names=(1, 2, 3, 4)):
    chance = random.Random(seed)
    found = []
    for n in names:
        for _ in range(times):
            many = chance.choice((0, 1, 2, most_coins, chance.randint(0, most_coins), chance.randint(0, most_coins)))
            found.append(random_heap(n, many, most_views, chance))
    return found
