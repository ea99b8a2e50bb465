"""The looker: whether an answer holds, knowing nothing of how it was made (point 12)."""

from telltight.rows import all_names, value
from telltight.rules import keeps_rules, rule_rows, rules


def are_weights(n, givens, weights):
    signs = [">" for rule in rules(n)] + [sign for row, sign, number in givens]
    if len(weights) != len(signs):
        return False
    return all([weight >= 0 or sign == "=" for weight, sign in zip(weights, signs)])


def row_come_to(n, givens, weights):
    rows = rule_rows(n) + [row for row, sign, number in givens]
    total = [0] * all_names(n)
    for row, weight in zip(rows, weights):
        total = [old + weight * number for old, number in zip(total, row)]
    return total


def number_come_to(n, givens, weights):
    often = weights[len(rules(n)):]
    return sum([weight * given[2] for weight, given in zip(often, givens)])


def keeps_given(given, numbers, below):
    found = value(given[0], numbers)
    wanted = given[2] * below
    return found == wanted or (given[1] == ">" and found > wanted)


def keeps_all(n, givens, table):
    numbers = table[0]
    below = table[1]
    if below < 1 or len(numbers) != all_names(n) or not keeps_rules(n, numbers):
        return False
    return all([keeps_given(given, numbers, below) for given in givens])


def goes_on(n, givens, way):
    # A way keeps what each given asks where its number is nought.
    return keeps_all(n, [(row, sign, 0) for row, sign, number in givens], (way, 1))


def least_holds(n, givens, goal, found):
    top = found[1][0]
    bottom = found[1][1]
    table = found[2]
    times = found[3]
    weights = found[4]
    if bottom < 1 or times < 1 or not keeps_all(n, givens, table) or not are_weights(n, givens, weights):
        return False
    if value(goal, table[0]) * bottom != top * table[1]:
        return False
    if row_come_to(n, givens, weights) != [number * times for number in goal]:
        return False
    return number_come_to(n, givens, weights) * bottom == top * times


def endless_holds(n, givens, goal, found):
    return keeps_all(n, givens, found[1]) and goes_on(n, givens, found[2]) and value(goal, found[2]) < 0


def never_holds(n, givens, weights):
    if not are_weights(n, givens, weights):
        return False
    return not any(row_come_to(n, givens, weights)) and number_come_to(n, givens, weights) > 0


def holds(n, givens, goal, found):
    if found[0] == "least":
        return least_holds(n, givens, goal, found)
    if found[0] == "endless":
        return endless_holds(n, givens, goal, found)
    return found[0] == "never" and never_holds(n, givens, found[1])
