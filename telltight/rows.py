"""Groups of names, and the rows that speak of them (points 4 to 6)."""

from telltight.errors import NoCount, NoGroup

MOST_NAMES = 4


def all_names(n):
    return (1 << n) - 1


def check_count(n):
    if n < 1 or n > MOST_NAMES:
        raise NoCount(n)


def check_group(n, group):
    if group < 1 or group > all_names(n):
        raise NoGroup(group)


def check_known(n, group):
    # What is known may be nobody's.
    if group != 0:
        check_group(n, group)


def check_rest(n, a, b):
    check_count(n)
    check_group(n, a)
    check_known(n, b)


def check_shared(n, a, b, c):
    check_count(n)
    check_group(n, a)
    check_group(n, b)
    check_known(n, c)


def row_of_terms(n, terms):
    row = [0] * all_names(n)
    for group, number in terms:
        # Nobody's number is nought in every table, so it has no place.
        if group != 0:
            row[group - 1] += number
    return row


# The two rows without a check: what the program itself asks for needs none.
def rest_row(n, a, b):
    return row_of_terms(n, [(a | b, 1), (b, -1)])


def shared_row(n, a, b, c):
    return row_of_terms(n, [(a | c, 1), (b | c, 1), (a | b | c, -1), (c, -1)])


def greatest(n):
    check_count(n)
    return all_names(n)


def unsure(n, a):
    check_count(n)
    check_group(n, a)
    return row_of_terms(n, [(a, 1)])


def rest(n, a, b):
    check_rest(n, a, b)
    return rest_row(n, a, b)


def shared(n, a, b, c):
    check_shared(n, a, b, c)
    return shared_row(n, a, b, c)


def value(row, table):
    return sum([number * unsureness for number, unsureness in zip(row, table)])
