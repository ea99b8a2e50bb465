"""How little a weighted sum can be where other sums are given (points 9 to 11).

The quantities of the sheet are each group's number, each rule's value, by how much each
given is above its number, and the goal turned about in sign, in this order. The groups'
numbers are guarded as the rules' values are: that they are from nought on follows from
the rules, so noughts for all of them are a table to begin with, and where a group's
number holds something down, the rules that it is a sum of do so.
"""

from telltight.rows import all_names
from telltight.rules import rule_rows
from telltight.sheet import Sheet
from telltight.splits import how_often, rules_of_rest


def common_divisor(numbers):
    divisor = 0
    for number in numbers:
        other = abs(number)
        while other != 0:
            left = divisor % other
            divisor = other
            other = left
        if divisor == 1:
            return 1
    return divisor


def in_lowest_terms(numbers):
    divisor = common_divisor(numbers)
    if divisor == 0:
        return list(numbers)
    return [number // divisor for number in numbers]


def lowest_fraction(top, bottom):
    numbers = in_lowest_terms([top, bottom])
    return (numbers[0], numbers[1])


def lowest_table(numbers, below):
    found = in_lowest_terms(numbers + [below])
    return (found[:-1], found[-1])


def opening_sheet(n, givens, goal):
    lines = [row + [0] for row in rule_rows(n)]
    guarded = all_names(n) + len(lines)
    lines.extend([list(row) + [-number] for row, sign, number in givens])
    lines.append([-number for number in goal] + [0])
    sheet = Sheet(all_names(n), lines)
    for quantity in range(guarded):
        sheet.guard(quantity)
    return sheet


def keep_just(sheet, place):
    quantity = sheet.sides[place]
    if sheet.lines[place][-1] > 0:
        sheet.turn_line(place)
    if sheet.lines[place][-1] < 0:
        if not sheet.lift(place):
            return False
    else:
        # Where no column moves it, it stays at nought by itself.
        column = sheet.moving_column(place)
        if column is not None:
            sheet.exchange(place, column)
    sheet.nail(quantity)
    return True


def keep_no_less(sheet, place):
    quantity = sheet.sides[place]
    if not sheet.lift(place):
        return False
    sheet.guard(quantity)
    return True


def weights_by_line(n, sheet, place):
    # The line's quantity, and each free one as often as it holds the line down, come to a number alone.
    taken = [0] * (len(sheet.heads) + len(sheet.sides))
    for column, quantity in enumerate(sheet.heads):
        taken[quantity] = -sheet.lines[place][column]
    taken[sheet.sides[place]] = sheet.below
    for quantity in sheet.turned:
        taken[quantity] = -taken[quantity]
    weights = taken[all_names(n):-1]
    for group in range(1, all_names(n) + 1):
        often = taken[group - 1]
        if often != 0:
            for rule, count in enumerate(how_often(n, rules_of_rest(n, group, 0))):
                weights[rule] += often * count
    return weights


def groups_in_column(n, sheet, column):
    found = [0] * all_names(n)
    for place, quantity in enumerate(sheet.sides):
        if quantity < len(found):
            found[quantity] = sheet.lines[place][column]
    return found


def table_of_sheet(n, sheet):
    return lowest_table(groups_in_column(n, sheet, -1), sheet.below)


def way_along(n, sheet, column):
    way = groups_in_column(n, sheet, column)
    if sheet.heads[column] < len(way):
        way[sheet.heads[column]] = sheet.below
    return in_lowest_terms(way)


def least_of_sheet(n, sheet, place):
    least = lowest_fraction(-sheet.lines[place][-1], sheet.below)
    weights = in_lowest_terms(weights_by_line(n, sheet, place) + [sheet.below])
    return ("least", least, table_of_sheet(n, sheet), weights[-1], weights[:-1])


def answer(n, givens, goal):
    sheet = opening_sheet(n, givens, goal)
    last = len(sheet.lines) - 1
    for place, given in enumerate(givens, start=last - len(givens)):
        kept = keep_just(sheet, place) if given[1] == "=" else keep_no_less(sheet, place)
        if not kept:
            return ("never", in_lowest_terms(weights_by_line(n, sheet, place)))
    column = sheet.drive_up(last)
    if column is None:
        return least_of_sheet(n, sheet, last)
    return ("endless", table_of_sheet(n, sheet), way_along(n, sheet, column))
