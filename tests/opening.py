"""Openers of locks and safes for the tests."""

import random
from itertools import combinations

from heaps import own_knows
from reckoning import names_of


def key_groups(n):
    return [g for g in range(2 ** n) if 0 not in names_of(g)]


def own_opens(openers, group):
    return any(names_of(opener) <= names_of(group) for opener in openers)


def own_least(groups):
    return sorted(g for g in groups if not any(names_of(h) < names_of(g) for h in groups))


def own_opened(heap):
    opening = [g for g in key_groups(len(heap[1])) if all(own_knows(heap, g, view) for view in heap[1][0])]
    return own_least(opening)


def all_openers(n):
    """Each choice of openers, nobody among them or not."""
    for many in range(2 ** (n - 1) + 1):
        for openers in combinations(key_groups(n), many):
            yield list(openers)


def openers_of_chance(seed, times):
    """None to ten openers, in any order, some twice."""
    chance = random.Random(seed)
    found = []
    for n in (2, 3, 4):
        for many in range(11):
            for _ in range(times):
                choices = key_groups(n) if chance.randrange(4) == 0 else key_groups(n)[1:]
                found.append((n, [chance.choice(choices) for _ in range(many)]))
    return found
