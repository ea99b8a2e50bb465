"""The parts that a table is the sum of (point 18)."""

from telltight.rows import all_names, row_of_terms, value
from telltight.splits import names_in


def part_row(n, g):
    # What all names are unsure of beyond those that are not in a group is the sum of the parts within
    # it. So a group's own part is left when lesser groups' sums are taken out and put back by turns.
    terms = []
    for within in range(g + 1):
        if within & ~g == 0:
            left_out = len(names_in(n, g & ~within))
            terms.append((all_names(n) & ~within, 1 if left_out % 2 == 1 else -1))
    return row_of_terms(n, terms)


def parts_of(n, table):
    return [value(part_row(n, group), table) for group in range(1, all_names(n) + 1)]


def sum_of_meeting(parts, group):
    return sum([part for met, part in enumerate(parts, start=1) if met & group != 0])


def table_of_parts(n, parts):
    return [sum_of_meeting(parts, group) for group in range(1, all_names(n) + 1)]
