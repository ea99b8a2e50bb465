"""Safes: heaps whose lock just the openers' keys know (points 44 to 46)."""

from telltight.coins import beside, coin_table
from telltight.locks import LOCK, key_groups, opens
from telltight.rows import all_names
from telltight.splits import names_in


def has_less(groups, group):
    return any([other != group and other & ~group == 0 for other in groups])


def least_of(groups):
    return [group for group in groups if not has_less(groups, group)]


def least_openers(n, openers):
    return least_of([group for group in key_groups(n) if opens(openers, group)])


def turned_openers(n, openers):
    keys = all_names(n) & ~LOCK
    return least_of([group for group in key_groups(n) if not opens(openers, keys & ~group)])


def all_openers(n):
    found = [[]]
    for group in key_groups(n):
        found = found + [groups + [group] for groups in found]
    return sorted([groups for groups in found if least_of(groups) == groups])


def safe_of(n, openers):
    least = least_openers(n, openers)
    keys_without = [[] for key in range(1, n)]
    if least == [0]:
        return (0, [[[]]] + keys_without)
    many = 1
    views = [[[0]]] + keys_without
    for opener in least:
        keys = names_in(n, opener)
        fresh = list(range(many, many + len(keys) - 1))
        for key, coin in zip(keys, fresh):
            views[key].append([coin])
        views[keys[-1]].append([0] + fresh)
        many += len(fresh)
    return (many, views)


def knows_lock(table, group):
    # A group that knows all of the lock's views is no more unsure together with the lock.
    alone = table[group - 1] if group != 0 else 0
    return table[(group | LOCK) - 1] == alone


def opened_by(heap):
    table = coin_table(heap)
    return least_of([group for group in key_groups(len(heap[1])) if knows_lock(table, group)])


def both_safes(one, other):
    both = beside(one, other)
    asked = both[1][0]
    return (both[0], [[asked[0] + asked[1]]] + both[1][1:])
