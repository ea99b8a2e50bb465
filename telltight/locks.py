"""Locks: how unsure keys must be that open one together and alone tell nothing of it (points 41 to 43)."""

from telltight.musts import silent, tells
from telltight.questions import answer
from telltight.rows import all_names, row_of_terms, shared_row, value

LOCK = 1


def key_groups(n):
    # Nobody first, then each group without the lock.
    return list(range(0, all_names(n), 2))


def opens(openers, group):
    return any([opener & ~group == 0 for opener in openers])


def matters(n, openers, key):
    return any([opens(openers, group | key) and not opens(openers, group & ~key) for group in key_groups(n)])


def mattering(n, openers):
    return [k for k in range(1, n) if matters(n, openers, 1 << k)]


def lock_givens(n, openers):
    givens = [(row_of_terms(n, [(LOCK, 1)]), "=", 1)]
    for group in key_groups(n):
        if opens(openers, group):
            givens.append(tells(n, group, LOCK))
        elif group != 0:
            givens.append(silent(n, LOCK, group, 0))
    return givens


def lock_answer(n, openers):
    keys_alone = row_of_terms(n, [(1 << k, 1) for k in range(1, n)])
    return answer(n, lock_givens(n, openers), keys_alone)


def is_told_rightly(n, openers, table, group):
    told = value(shared_row(n, LOCK, group, 0), table)
    return told == (table[LOCK - 1] if opens(openers, group) else 0)


def lock_told(n, openers, table):
    return [group for group in key_groups(n) if not is_told_rightly(n, openers, table, group)]
