"""Each rest and each shared as a sum of plain rules (point 8)."""

from telltight.rows import check_rest, check_shared
from telltight.rules import rules


def names_in(n, group):
    return [k for k in range(n) if group & (1 << k) != 0]


def pair_rule(one, other, known):
    return ("pair", min(one, other), max(one, other), known)


def rules_of_name(n, k, known):
    # A name has as much left as all others leave to it, and what it shares with each
    # of those that aren't known yet, taken one by one.
    used = []
    for j in names_in(n, ~(known | (1 << k))):
        used.append(pair_rule(k, j, known))
        known = known | (1 << j)
    used.append(("last", k))
    return used


def rules_of_rest(n, a, b):
    used = []
    known = b
    for k in names_in(n, a & ~b):
        used.extend(rules_of_name(n, k, known))
        known = known | (1 << k)
    return used


def rules_of_shared(n, a, b, c):
    # Names that both groups have are shared whole; where these are known too, the
    # others of the one and of the other are taken pair by pair.
    common = a & b
    used = rules_of_rest(n, common, c)
    known = c | common
    for i in names_in(n, a & ~known):
        before = known
        for j in names_in(n, b & ~known):
            used.append(pair_rule(i, j, before))
            before = before | (1 << j)
        known = known | (1 << i)
    return used


def how_often(n, used):
    return [used.count(rule) for rule in rules(n)]


def split_rest(n, a, b):
    check_rest(n, a, b)
    return how_often(n, rules_of_rest(n, a, b))


def split_shared(n, a, b, c):
    check_shared(n, a, b, c)
    return how_often(n, rules_of_shared(n, a, b, c))
