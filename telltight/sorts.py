"""The sorts that tables of up to three names are sums of, and the heaps of such tables (points 24 to 27)."""

from telltight.coins import MOST_COINS, beside, coin_table, taken
from telltight.errors import NoTable, TooMany
from telltight.musts import must_row
from telltight.parts import parts_of
from telltight.rows import all_names, value
from telltight.rules import rule_row, rules


def sorts(n):
    found = [("coin", group) for group in range(1, all_names(n) + 1)]
    if n == 3:
        found.append(("odd",))
    return found


def views_of_coin(group, name):
    return [[0]] if group & (1 << name) != 0 else []


def sort_heap(n, sort):
    if sort[0] == "odd":
        return (2, [[[0]], [[1]], [[0, 1]]])
    return (1, [views_of_coin(sort[1], name) for name in range(n)])


def sort_table(n, sort):
    return coin_table(sort_heap(n, sort))


def check_table(n, table):
    for rule in rules(n):
        if value(rule_row(n, rule), table) < 0:
            raise NoTable(rule)


def sort_counts(n, table):
    check_table(n, table)
    parts = parts_of(n, table)
    if n < 3:
        return parts
    # The coin of a group has that one part alone; a part of all three that is below nought comes of odd.
    odd = max(0, -parts[-1])
    odd_parts = parts_of(n, sort_table(n, ("odd",)))
    return [part - odd * other for part, other in zip(parts, odd_parts)] + [odd]


def heap_of(n, table):
    counts = sort_counts(n, table)
    # The sorts have as many coins as all names together tell.
    if table[-1] > MOST_COINS:
        raise TooMany("more than forty coins")
    found = (0, [[] for name in range(n)])
    for sort, count in zip(sorts(n), counts):
        found = beside(found, taken(sort_heap(n, sort), count))
    return found


def keeps_facts(n, facts, table):
    return all([value(must_row(n, fact), table) == 0 for fact in facts])


def by_sorts(n, facts, row):
    for sort in sorts(n):
        table = sort_table(n, sort)
        if value(row, table) < 0 and keeps_facts(n, facts, table):
            return ("broken", sort)
    return ("so",)
