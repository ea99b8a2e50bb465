"""Questions for the tests: the same ones each time, by seeded chance."""

import random

from reckoning import groups, own_rest, own_shared, own_value

FAR = 10 ** 40 - 1


def cone_table(n, chance, most):
    """A table that keeps the rules: a sum of ones that have 1 for each group that meets a given one."""
    table = [0] * (2 ** n - 1)
    for met in groups(n):
        often = chance.randint(0, most)
        table = [old + often * (1 if g & met else 0) for g, old in zip(groups(n), table)]
    return table


def number_maker(chance, kind):
    makers = {
        "small": lambda: chance.randint(-3, 3),
        "sparse": lambda: chance.choice((0, 0, 0, 0, 1, -1, 2)),
        "upward": lambda: chance.randint(0, 4),
        "far": lambda: chance.choice((0, chance.randint(-FAR, FAR), FAR, -FAR)),
    }
    return makers[kind]


def random_row(n, chance, make):
    kind = chance.randrange(4)
    a, b, c = chance.choice(groups(n)), chance.choice(groups(n)), chance.randrange(2 ** n)
    if kind == 0:
        return own_rest(n, a, c)
    if kind == 1:
        return own_shared(n, a, b, c)
    return [make() for _ in groups(n)]


def free_question(n, many, chance, kind):
    """Givens and a goal that know nothing of one another."""
    make = number_maker(chance, kind)
    givens = [(random_row(n, chance, make), chance.choice("=>"), make()) for _ in range(many)]
    return n, givens, random_row(n, chance, make)


def kept_question(n, many, chance, kind):
    """Givens that some table keeps, some hanging on others or standing twice."""
    make = number_maker(chance, kind)
    table = cone_table(n, chance, chance.choice((1, 5, 10 ** 36)))
    givens = []
    while len(givens) < many:
        how = chance.randrange(5)
        if givens and how == 0:
            row, sign, number = chance.choice(givens)
            givens.append((list(row), sign, number))
        elif givens and how == 1:
            one, other = chance.choice(givens), chance.choice(givens)
            givens.append(([x + y for x, y in zip(one[0], other[0])], ">", one[2] + other[2]))
        elif how == 2 and chance.randrange(3) == 0:
            givens.append(([0] * (2 ** n - 1), chance.choice("=>"), 0))
        else:
            row = random_row(n, chance, make)
            number = own_value(row, table)
            sign = chance.choice("=>")
            givens.append((row, sign, number - (chance.choice((0, 1, 7)) if sign == ">" else 0)))
    return n, givens, random_row(n, chance, make)


def gainsaying_question(n, many, chance, kind):
    """A kept question in which one given more can't be kept with the others."""
    n, givens, goal = kept_question(n, max(0, many - 2), chance, kind)
    row = random_row(n, chance, number_maker(chance, kind))
    number = chance.randint(-5, 5)
    givens.insert(chance.randint(0, len(givens)), (row, "=", number))
    by = chance.choice((1, -1, 10 ** 38))
    givens.insert(chance.randint(0, len(givens)), ([2 * x for x in row], "=", 2 * number + by))
    return n, givens, goal


def questions(seed, times, names=(1, 2, 3, 4), most=9):
    chance = random.Random(seed)
    makers = (free_question, kept_question, kept_question, gainsaying_question)
    found = []
    for n in names:
        for kind in ("small", "sparse", "upward", "far"):
            for maker in makers:
                for _ in range(times):
                    # Few givens as often as any number of them: many mostly gainsay one another.
                    many = chance.choice((chance.randint(0, min(2, most)), chance.randint(0, most)))
                    count, givens, goal = maker(n, many, chance, kind)
                    sign = chance.choice((1, -1))
                    found.append((count, givens, [sign * number for number in goal]))
    return found
