"""Which silent pairs bring which others, and the sorts against those that they don't (points 28 to 30)."""

from telltight.rows import all_names, shared_row, value
from telltight.rules import rules
from telltight.sorts import sort_table, sorts


def all_pairs(n):
    return [(rule[1], rule[2], rule[3]) for rule in rules(n) if rule[0] == "pair"]


def pair_of(one, other, known):
    return (min(one, other), max(one, other), known)


def steps_of(i, j, k, g):
    one = pair_of(i, k, g)
    other = pair_of(i, j, g | (1 << k))
    return [(one, other, pair_of(i, j, g)), (one, other, pair_of(i, k, g | (1 << j)))]


def steps_of_names(n, i, j, k):
    three = (1 << i) | (1 << j) | (1 << k)
    found = []
    for g in range(all_names(n) + 1):
        if g & three == 0:
            found.extend(steps_of(i, j, k, g))
    return found


def all_steps(n):
    found = []
    for i in range(n):
        for j in range(n):
            for k in range(n):
                if i != j and i != k and j != k:
                    found.extend(steps_of_names(n, i, j, k))
    return found


def brought_pairs(n, pairs):
    silent = dict([(pair, True) for pair in pairs])
    steps = []
    many = -1
    while many < len(silent):
        many = len(silent)
        for one, other, more in all_steps(n):
            if one in silent and other in silent and more not in silent:
                silent[more] = True
                steps.append((one, other, more))
    return ([pair for pair in all_pairs(n) if pair in silent], steps)


def is_step(steps, one, other, more):
    return (one, other, more) in steps or (other, one, more) in steps


def steps_hold(n, pairs, found, steps):
    if found != brought_pairs(n, pairs)[0]:
        return False
    allowed = all_steps(n)
    silent = dict([(pair, True) for pair in pairs])
    for one, other, more in steps:
        if one not in silent or other not in silent or more in silent or not is_step(allowed, one, other, more):
            return False
        silent[more] = True
    # Each step has brought a pair of found that was not there yet.
    return len(silent) == len(found)


def is_silent(n, table, pair):
    return value(shared_row(n, 1 << pair[0], 1 << pair[1], pair[2]), table) == 0


def sort_against(n, pairs, pair):
    # A sort that has the handed pairs silent has all that they bring silent, too.
    for sort in sorts(n):
        table = sort_table(n, sort)
        if not is_silent(n, table, pair) and all([is_silent(n, table, handed) for handed in pairs]):
            return sort
    return None
