"""Musts: that a group makes sure of another, or tells nothing of it, and which of them follow (point 15)."""

from telltight.follows import follows
from telltight.rows import all_names, check_count, check_group, check_known, check_shared, rest_row, shared_row
from telltight.rules import rules
from telltight.splits import names_in


def tells(n, a, b):
    check_count(n)
    check_known(n, a)
    check_group(n, b)
    return (rest_row(n, b, a), "=", 0)


def silent(n, a, b, c):
    check_shared(n, a, b, c)
    return (shared_row(n, a, b, c), "=", 0)


def plain_tells(n):
    found = []
    for a in range(all_names(n) + 1):
        found.extend([("tells", a, 1 << k) for k in names_in(n, ~a)])
    return found


def plain_silents(n):
    return [("silent", 1 << rule[1], 1 << rule[2], rule[3]) for rule in rules(n) if rule[0] == "pair"]


def must_row(n, must):
    if must[0] == "tells":
        return rest_row(n, must[2], must[1])
    return shared_row(n, must[1], must[2], must[3])


def must_follows(n, givens, must):
    # By the rules no such row falls below nought, so it is nought where it can't rise above.
    downward = [-x for x in must_row(n, must)]
    return follows(n, givens, (downward, ">", 0))[0]


def brought(n, givens):
    return [must for must in plain_tells(n) + plain_silents(n) if must_follows(n, givens, must)]
