"""What the tests reckon themselves, straight from the document's words, by sets of names.

Nothing here is drawn from the program, so that it can be held against it.
"""

from fractions import Fraction
from functools import lru_cache
from itertools import combinations
from math import gcd


def names_of(group):
    return frozenset(k for k in range(group.bit_length()) if group >> k & 1)


def groups(n):
    return list(range(1, 2 ** n))


def row_by(n, plus, minus):
    """A row with 1 more for each set of names in plus, 1 less for each in minus."""
    return [plus.count(names_of(g)) - minus.count(names_of(g)) for g in groups(n)]


def own_unsure(n, a):
    return row_by(n, [names_of(a)], [])


def own_rest(n, a, b):
    return row_by(n, [names_of(a) | names_of(b)], [names_of(b)])


def own_shared(n, a, b, c):
    one, other, known = names_of(a), names_of(b), names_of(c)
    return row_by(n, [one | known, other | known], [one | other | known, known])


def own_rules(n):
    lasts = [("last", k) for k in range(n)]
    pairs = []
    for i, j in combinations(range(n), 2):
        for g in range(2 ** n):
            if not names_of(g) & {i, j}:
                pairs.append(("pair", i, j, g))
    return lasts + pairs


def own_rule_row(n, rule):
    if rule[0] == "last":
        others = sum(2 ** k for k in range(n) if k != rule[1])
        return own_rest(n, 2 ** rule[1], others)
    return own_shared(n, 2 ** rule[1], 2 ** rule[2], rule[3])


@lru_cache
def own_rule_rows(n):
    return [own_rule_row(n, rule) for rule in own_rules(n)]


def own_value(row, table):
    assert len(row) == len(table)
    total = 0
    for number, unsureness in zip(row, table):
        total += number * unsureness
    return total


def own_keeps_rules(n, table):
    return all(own_value(row, table) >= 0 for row in own_rule_rows(n))


def is_whole(thing):
    return isinstance(thing, int) and not isinstance(thing, bool)


def is_whole_list(thing, length):
    return isinstance(thing, list) and len(thing) == length and all(is_whole(number) for number in thing)


def common_divisor(numbers):
    found = 0
    for number in numbers:
        found = gcd(found, number)
    return found


def solved(rows, numbers):
    """The one list x of fractions with row . x = number for each row (as many rows as unknowns)."""
    size = len(rows)
    lines = [[Fraction(x) for x in row] + [Fraction(y)] for row, y in zip(rows, numbers)]
    for place in range(size):
        pivot = next(k for k in range(place, size) if lines[k][place] != 0)
        lines[place], lines[pivot] = lines[pivot], lines[place]
        lines[place] = [x / lines[place][place] for x in lines[place]]
        for k in range(size):
            if k != place:
                factor = lines[k][place]
                lines[k] = [x - factor * y for x, y in zip(lines[k], lines[place])]
    return [line[-1] for line in lines]


# Point 11 and 12, read word by word over fractions.

def own_keeps_given(given, fractions):
    row, sign, number = given
    found = own_value(row, fractions)
    return found == number if sign == "=" else found >= number


def own_keeps_all(n, givens, table):
    numbers, below = table
    if below < 1 or len(numbers) != 2 ** n - 1:
        return False
    fractions = [Fraction(number, below) for number in numbers]
    return own_keeps_rules(n, fractions) and all(own_keeps_given(given, fractions) for given in givens)


def own_are_weights(n, givens, weights):
    rules = len(own_rules(n))
    if len(weights) != rules + len(givens):
        return False
    if min(weights[:rules]) < 0:
        return False
    return all(weight >= 0 for weight, given in zip(weights[rules:], givens) if given[1] == ">")


def own_come_to(n, givens, weights):
    rows = own_rule_rows(n) + [given[0] for given in givens]
    numbers = [0] * len(own_rules(n)) + [given[2] for given in givens]
    row = [own_value([line[place] for line in rows], weights) for place in range(2 ** n - 1)]
    return row, own_value(numbers, weights)


def own_holds(n, givens, goal, found):
    if found[0] == "least":
        (top, bottom), table, times, weights = found[1:]
        if bottom < 1 or times < 1 or not own_keeps_all(n, givens, table) or not own_are_weights(n, givens, weights):
            return False
        row, number = own_come_to(n, givens, weights)
        at_table = Fraction(own_value(goal, table[0]), table[1])
        return (at_table == Fraction(top, bottom) and row == [times * x for x in goal]
                and Fraction(number, times) == Fraction(top, bottom))
    if found[0] == "endless":
        table, way = found[1:]
        if not own_keeps_all(n, givens, table) or len(way) != 2 ** n - 1 or not own_keeps_rules(n, way):
            return False
        along = [(own_value(row, way), sign) for row, sign, number in givens]
        return all(x == 0 or (sign == ">" and x > 0) for x, sign in along) and own_value(goal, way) < 0
    weights = found[1]
    if not own_are_weights(n, givens, weights):
        return False
    row, number = own_come_to(n, givens, weights)
    return row == [0] * (2 ** n - 1) and number > 0


def is_table(n, thing):
    if type(thing) is not tuple or len(thing) != 2 or not is_whole_list(thing[0], 2 ** n - 1):
        return False
    return is_whole(thing[1]) and thing[1] >= 1 and common_divisor(thing[0] + [thing[1]]) == 1


def is_fraction(thing):
    """A tuple (top, bottom) in lowest terms, bottom from 1 on."""
    if type(thing) is not tuple or len(thing) != 2 or not all(is_whole(number) for number in thing):
        return False
    return thing[1] >= 1 and gcd(thing[0], thing[1]) == 1


def is_told_form(n, givens, found):
    """Whether the kinds are as the document tells them, fractions and tables in lowest terms."""
    many = len(own_rules(n)) + len(givens)
    if type(found) is not tuple:
        return False
    if found[0] == "least" and len(found) == 5:
        fine = is_fraction(found[1]) and is_table(n, found[2])
        return fine and is_whole(found[3]) and is_whole_list(found[4], many)
    if found[0] == "endless" and len(found) == 3:
        return is_table(n, found[1]) and is_whole_list(found[2], 2 ** n - 1)
    return found[0] == "never" and len(found) == 2 and is_whole_list(found[1], many)


# Points 13 and 14, likewise.

def own_paper_holds(n, givens, row, number, paper):
    if paper[0] == "never":
        return own_holds(n, givens, row, paper)
    word, times, weights = paper
    if times < 1 or not own_are_weights(n, givens, weights):
        return False
    come_row, come_number = own_come_to(n, givens, weights)
    return come_row == [times * x for x in row] and come_number >= times * number


def own_follow_holds(n, givens, saying, found):
    row, sign, number = saying
    if not found[0]:
        numbers, below = found[1]
        if not own_keeps_all(n, givens, found[1]):
            return False
        return not own_keeps_given(saying, [Fraction(x, below) for x in numbers])
    wanted = [(row, number)] if sign == ">" else [(row, number), ([-x for x in row], -number)]
    if len(found[1]) != len(wanted):
        return False
    return all(own_paper_holds(n, givens, one, least, paper) for (one, least), paper in zip(wanted, found[1]))


def is_told_paper(n, givens, paper):
    many = len(own_rules(n)) + len(givens)
    if type(paper) is not tuple or not paper or not is_whole_list(paper[-1], many):
        return False
    if paper[0] == "by":
        return len(paper) == 3 and is_whole(paper[1])
    return paper[0] == "never" and len(paper) == 2


def is_told_follow(n, givens, found):
    if type(found) is not tuple or len(found) != 2 or type(found[0]) is not bool:
        return False
    if found[0]:
        return type(found[1]) is list and all(is_told_paper(n, givens, paper) for paper in found[1])
    return is_table(n, found[1])


# Point 24.

ODD = ("odd",)


def own_sorts(n):
    return [("coin", g) for g in groups(n)] + ([ODD] if n == 3 else [])


def own_sort_table(n, sort):
    if sort == ODD:
        return [min(2, len(names_of(g))) for g in groups(n)]
    return [1 if names_of(g) & names_of(sort[1]) else 0 for g in groups(n)]


def numbers_in(thing):
    if is_whole(thing):
        return [thing]
    if isinstance(thing, (list, tuple)):
        return [number for part in thing for number in numbers_in(part)]
    return []


def lists_in(thing):
    found = [thing] if isinstance(thing, list) else []
    if isinstance(thing, (list, tuple)):
        found += [part for inner in thing for part in lists_in(inner)]
    return found
