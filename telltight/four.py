"""A saying of four names that each heap keeps and that no weights show (points 31 and 32)."""

from telltight.coins import coin_table, common_views, rank_of
from telltight.rows import all_names, shared_row, value
from telltight.splits import names_in

NAMES = 4


def four_row(i, j, k, l):
    by_k = shared_row(NAMES, 1 << i, 1 << j, 1 << k)
    by_l = shared_row(NAMES, 1 << i, 1 << j, 1 << l)
    both = shared_row(NAMES, 1 << k, 1 << l, 0)
    whole = shared_row(NAMES, 1 << i, 1 << j, 0)
    return [a + b + c - d for a, b, c, d in zip(by_k, by_l, both, whole)]


def four_number(group, apart):
    if group == apart:
        return 4
    return min(4, len(names_in(NAMES, group)) + 1)


def four_table(i, j, k, l):
    return [four_number(group, (1 << k) | (1 << l)) for group in range(1, all_names(NAMES) + 1)]


def grown_by(heap, name, views):
    return rank_of(heap[1][name] + views) - rank_of(heap[1][name])


def four_shown(heap, i, j, k, l):
    views = common_views(heap, 1 << i, 1 << j)
    both = value(shared_row(NAMES, 1 << k, 1 << l, 0), coin_table(heap))
    return (views, (len(views), grown_by(heap, k, views), grown_by(heap, l, views), both))
