"""Between which ends a row's value lies by givens (point 40)."""

from telltight.questions import answer
from telltight.rows import all_names, row_of_terms


def end_of(found):
    return found[1] if found[0] == "least" else None


def turned(end):
    return None if end is None else (-end[0], end[1])


def range_of(n, givens, row):
    found = answer(n, givens, row)
    if found[0] == "never":
        return None
    high = turned(end_of(answer(n, givens, [-x for x in row])))
    return (end_of(found), high)


def ranges(n, givens):
    found = [range_of(n, givens, row_of_terms(n, [(group, 1)])) for group in range(1, all_names(n) + 1)]
    # No table keeps the givens: that hangs on no row.
    return None if found[0] is None else found


def settled(n, givens):
    found = ranges(n, givens)
    if found is None:
        return None
    # No group's range is without a low end, so two ends alike are fractions.
    return [group for group, ends in enumerate(found, start=1) if ends[0] == ends[1]]


def is_below(one, other):
    return one[0] * other[1] < other[0] * one[1]


def outlying(n, givens, row, number):
    ends = range_of(n, givens, row)
    if ends is None:
        return None
    if ends[0] is not None and is_below(number, ends[0]):
        return "less"
    if ends[1] is not None and is_below(ends[1], number):
        return "more"
    return "within"
