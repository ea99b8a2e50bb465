"""What follows from givens, and whether what is told of that holds (points 13 and 14)."""

from telltight.judge import are_weights, keeps_all, keeps_given, never_holds, number_come_to, row_come_to
from telltight.questions import answer, lowest_table
from telltight.rows import value


def upward_sayings(saying):
    # A paper shows that a row is no less than a number; that it is no more either takes another one.
    row = saying[0]
    number = saying[2]
    upward = [(row, ">", number)]
    if saying[1] == "=":
        upward.append(([-x for x in row], ">", -number))
    return upward


def table_along(table, way, row, number):
    # The row's value falls by a whole number from 1 on with each step along the way.
    below = table[1]
    above = value(row, table[0]) - number * below
    fall = -value(row, way) * below
    steps = max(0, above // fall + 1)
    return lowest_table([x + steps * below * y for x, y in zip(table[0], way)], below)


def follow_upward(n, givens, row, number):
    found = answer(n, givens, row)
    if found[0] == "never":
        return (True, found)
    if found[0] == "endless":
        return (False, table_along(found[1], found[2], row, number))
    if found[1][0] < number * found[1][1]:
        return (False, found[2])
    return (True, ("by", found[3], found[4]))


def follows(n, givens, saying):
    papers = []
    for row, sign, number in upward_sayings(saying):
        told = follow_upward(n, givens, row, number)
        if not told[0]:
            return told
        papers.append(told[1])
    return (True, papers)


def by_holds(n, givens, saying, times, weights):
    if times < 1 or not are_weights(n, givens, weights):
        return False
    if row_come_to(n, givens, weights) != [x * times for x in saying[0]]:
        return False
    return number_come_to(n, givens, weights) >= saying[2] * times


def paper_holds(n, givens, saying, paper):
    if paper[0] == "never" and len(paper) == 2:
        return never_holds(n, givens, paper[1])
    return paper[0] == "by" and len(paper) == 3 and by_holds(n, givens, saying, paper[1], paper[2])


def papers_hold(n, givens, saying, papers):
    upward = upward_sayings(saying)
    if len(papers) != len(upward):
        return False
    return all([paper_holds(n, givens, one, paper) for one, paper in zip(upward, papers)])


def breaks(n, givens, saying, table):
    return keeps_all(n, givens, table) and not keeps_given(saying, table[0], table[1])


def follow_holds(n, givens, saying, found):
    # Papers are a list and a table is a tuple: what is told with its truth alone turned about holds nowhere.
    if found[0]:
        return isinstance(found[1], list) and papers_hold(n, givens, saying, found[1])
    return isinstance(found[1], tuple) and breaks(n, givens, saying, found[1])
