"""The plain rules, their rows, and the tables that keep them (point 7)."""

from telltight.rows import all_names, rest_row, shared_row, value


def pairs_with_known(n, i, j):
    both = (1 << i) | (1 << j)
    return [("pair", i, j, g) for g in range(all_names(n) + 1) if g & both == 0]


def rules(n):
    found = [("last", k) for k in range(n)]
    for i in range(n):
        for j in range(i + 1, n):
            found.extend(pairs_with_known(n, i, j))
    return found


def rule_row(n, rule):
    one = 1 << rule[1]
    if rule[0] == "last":
        return rest_row(n, one, all_names(n) - one)
    return shared_row(n, one, 1 << rule[2], rule[3])


def rule_rows(n):
    return [rule_row(n, rule) for rule in rules(n)]


def keeps_rules(n, table):
    return all([value(row, table) >= 0 for row in rule_rows(n)])
