"""How the least of a goal bends as the number of one given moves (point 37).

The least, drawn over the moving number t, is a line that bends upward alone. Each table
has a point (t, value of the goal), on that line or above it. So, for any slope, the
tables at which the goal, less the given's row taken slope times, is least have points
on the line, and nowhere does it come below the straight one with that slope through them.
"""

from telltight.questions import answer, lowest_fraction
from telltight.rows import value


def least_at(n, givens, place, goal, number):
    # The row is taken so often that the number comes out whole.
    moved = ([x * number[1] for x in givens[place][0]], "=", number[0])
    found = answer(n, givens[:place] + [moved] + givens[place + 1:], goal)
    if found[0] == "least":
        return ("least", found[1])
    return (found[0],)


def with_noughts(givens):
    return [(row, sign, 0) for row, sign, number in givens]


def lowest_point(n, others, row, goal, slope):
    tilted = [x * slope[1] - y * slope[0] for x, y in zip(goal, row)]
    table = answer(n, others, tilted)[2]
    return (lowest_fraction(value(row, table[0]), table[1]), lowest_fraction(value(goal, table[0]), table[1]))


def slope_between(one, other):
    across = other[0][0] * one[0][1] - one[0][0] * other[0][1]
    up = other[1][0] * one[1][1] - one[1][0] * other[1][1]
    return lowest_fraction(up * one[0][1] * other[0][1], across * one[1][1] * other[1][1])


def height_over(point, slope):
    # How far the point lies above the straight line with the slope through nought.
    t = point[0]
    least = point[1]
    top = least[0] * t[1] * slope[1] - slope[0] * t[0] * least[1]
    return lowest_fraction(top, least[1] * t[1] * slope[1])


def end_of_line(n, givens, place, goal, side):
    # The side is 1 where t falls and -1 where it grows. Told is a point, and the slope from it on to
    # this side, or None where the line ends there.
    row = givens[place][0]
    others = givens[:place] + givens[place + 1:]
    downward = [side * x for x in row]
    found = answer(n, others, downward)
    if found[0] == "least":
        t = (side * found[1][0], found[1][1])
        return ((t, least_at(n, givens, place, goal, t)[1]), None)
    # Far out, what the givens' numbers are counts no more: the least grows as along a way.
    growth = answer(n, with_noughts(others) + [(downward, "=", -1)], goal)[1]
    slope = (-side * growth[0], growth[1])
    return (lowest_point(n, others, row, goal, slope), slope)


def points_between(n, others, row, goal, first, last):
    points = [first]
    slopes = []
    ahead = [last] if last != first else []
    while len(ahead) > 0:
        slope = slope_between(points[-1], ahead[-1])
        lowest = lowest_point(n, others, row, goal, slope)
        if height_over(lowest, slope) == height_over(points[-1], slope):
            points.append(ahead.pop())
            slopes.append(slope)
        else:
            ahead.append(lowest)
    return (points, slopes)


def only_bends(points, slopes):
    # A point may come of a table without a bend there.
    kept = []
    told = [slopes[0]]
    for point, slope in zip(points, slopes[1:]):
        if slope is None or slope != told[-1]:
            kept.append(point)
            told.append(slope)
    return ("bends", kept, [slope for slope in told if slope is not None])


def bends(n, givens, place, goal):
    row = givens[place][0]
    others = givens[:place] + givens[place + 1:]
    if answer(n, others, goal)[0] == "never":
        return ("never",)
    if answer(n, with_noughts(givens), goal)[0] == "endless":
        return ("endless",)
    first = end_of_line(n, givens, place, goal, 1)
    last = end_of_line(n, givens, place, goal, -1)
    found = points_between(n, others, row, goal, first[0], last[0])
    return only_bends(found[0], [first[1]] + found[1] + [last[1]])
