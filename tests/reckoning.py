"""What the tests reckon themselves, straight from the document's words, by sets of names.

Nothing here is drawn from the program, so that it can be held against it.
"""

from fractions import Fraction
from functools import lru_cache
from itertools import combinations
from math import gcd


def names_of(group):
    return frozenset(k for k in range(group.bit_length()) if group >> k & 1)


def groups(n):
    return list(range(1, 2 ** n))


def row_by(n, plus, minus):
    """A row with 1 more for each set of names in plus, 1 less for each in minus."""
    return [plus.count(names_of(g)) - minus.count(names_of(g)) for g in groups(n)]


def own_unsure(n, a):
    return row_by(n, [names_of(a)], [])


def own_rest(n, a, b):
    return row_by(n, [names_of(a) | names_of(b)], [names_of(b)])


def own_shared(n, a, b, c):
    one, other, known = names_of(a), names_of(b), names_of(c)
    return row_by(n, [one | known, other | known], [one | other | known, known])


def own_rules(n):
    lasts = [("last", k) for k in range(n)]
    pairs = []
    for i, j in combinations(range(n), 2):
        for g in range(2 ** n):
            if not names_of(g) & {i, j}:
                pairs.append(("pair", i, j, g))
    return lasts + pairs


def own_rule_row(n, rule):
    if rule[0] == "last":
        others = sum(2 ** k for k in range(n) if k != rule[1])
        return own_rest(n, 2 ** rule[1], others)
    return own_shared(n, 2 ** rule[1], 2 ** rule[2], rule[3])


@lru_cache
def own_rule_rows(n):
    return [own_rule_row(n, rule) for rule in own_rules(n)]


def own_value(row, table):
    assert len(row) == len(table)
    total = 0
    for number, unsureness in zip(row, table):
        total += number * unsureness
    return total


def own_keeps_rules(n, table):
    return all(own_value(row, table) >= 0 for row in own_rule_rows(n))


def is_whole(thing):
    return isinstance(thing, int) and not isinstance(thing, bool)


def is_whole_list(thing, length):
    return isinstance(thing, list) and len(thing) == length and all(is_whole(number) for number in thing)


def common_divisor(numbers):
    found = 0
    for number in numbers:
        found = gcd(found, number)
    return found


def solved(rows, numbers):
    """The one list x of fractions with row . x = number for each row (as many rows as unknowns)."""
    size = len(rows)
    lines = [[Fraction(x) for x in row] + [Fraction(y)] for row, y in zip(rows, numbers)]
    for place in range(size):
        pivot = next(k for k in range(place, size) if lines[k][place] != 0)
        lines[place], lines[pivot] = lines[pivot], lines[place]
        lines[place] = [x / lines[place][place] for x in lines[place]]
        for k in range(size):
            if k != place:
                factor = lines[k][place]
                lines[k] = [x - factor * y for x, y in zip(lines[k], lines[place])]
    return [line[-1] for line in lines]
