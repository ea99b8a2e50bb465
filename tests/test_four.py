import random
import unittest
from itertools import permutations

from heaps import heaps, is_view, own_coin_table, own_knows, own_rank, random_heap
from owning import expect_own
from reckoning import (groups, is_whole, is_whole_list, names_of, own_follow_holds, own_keeps_rules, own_shared,
                       own_value)
from telltight.coins import common_views
from telltight.follows import follows
from telltight.four import four_row, four_shown, four_table
from telltight.rules import keeps_rules

ORDERS = list(permutations(range(4)))


def own_four_row(i, j, k, l):
    i, j, k, l = [2 ** name for name in (i, j, k, l)]
    parts = (own_shared(4, i, j, k), own_shared(4, i, j, l), own_shared(4, k, l, 0), own_shared(4, i, j, 0))
    return [a + b + c - d for a, b, c, d in zip(*parts)]


def own_four_table(i, j, k, l):
    found = []
    for g in groups(4):
        found.append({1: 2, 2: 4 if names_of(g) == {k, l} else 3, 3: 4, 4: 4}[len(names_of(g))])
    return found


class RowTest(unittest.TestCase):
    def test_all_orders(self):
        for order in ORDERS:
            row = expect_own(self, four_row, order)
            self.assertTrue(is_whole_list(row, 15))
            self.assertEqual(row, own_four_row(*order), order)

    def test_by_hand(self):
        self.assertEqual(four_row(0, 1, 2, 3), [-1, -1, 1, 0, 1, 1, -1, 0, 1, 1, -1, -1, 0, 0, 0])

    def test_each_heap_keeps_it(self):
        chance = random.Random(501)
        nought = 0
        for heap in heaps(502, 80, 6, 3, names=(4,)) + [random_heap(4, 5, 2, chance) for _ in range(200)]:
            table = own_coin_table(heap)
            for order in ORDERS:
                found = own_value(four_row(*order), table)
                self.assertGreaterEqual(found, 0, (heap, order))
                nought += found == 0
        self.assertGreater(nought, 100)


class TableTest(unittest.TestCase):
    def test_all_orders(self):
        for order in ORDERS:
            table = expect_own(self, four_table, order)
            self.assertTrue(is_whole_list(table, 15))
            self.assertEqual(table, own_four_table(*order), order)
            self.assertIs(keeps_rules(4, table), True)
            self.assertTrue(own_keeps_rules(4, table))
            self.assertEqual(own_value(four_row(*order), table), -1, order)

    def test_by_hand(self):
        self.assertEqual(four_table(0, 1, 2, 3), [2, 2, 3, 2, 3, 3, 4, 2, 3, 3, 4, 4, 4, 4, 4])

    def test_no_weights_show_it(self):
        for order in ORDERS[::5]:
            saying = (four_row(*order), ">", 0)
            found = follows(4, [], saying)
            self.assertIs(found[0], False)
            self.assertTrue(own_follow_holds(4, [], saying, found))
            self.assertTrue(own_follow_holds(4, [], saying, (False, (four_table(*order), 1))))


class ShownTest(unittest.TestCase):
    def expect(self, heap, i, j, k, l):
        told = expect_own(self, four_shown, (heap, i, j, k, l))
        self.assertTrue(type(told) is tuple and len(told) == 2 and type(told[0]) is list and type(told[1]) is tuple)
        views, (whole, by_k, by_l, both) = told
        self.assertTrue(all(is_whole(number) for number in told[1]))
        self.assertTrue(all(is_view(view, heap[0]) for view in views))
        table = own_coin_table(heap)
        one, other, third, last = [2 ** name for name in (i, j, k, l)]
        self.assertEqual(views, common_views(heap, one, other))
        self.assertTrue(all(own_knows(heap, one, view) and own_knows(heap, other, view) for view in views))
        self.assertEqual(own_rank(views), len(views))
        self.assertEqual(len(views), own_value(own_shared(4, one, other, 0), table))
        self.assertEqual(whole, len(views))
        self.assertEqual(by_k, own_rank(heap[1][k] + views) - own_rank(heap[1][k]), (heap, i, j, k, l))
        self.assertEqual(by_l, own_rank(heap[1][l] + views) - own_rank(heap[1][l]), (heap, i, j, k, l))
        self.assertEqual(both, own_value(own_shared(4, third, last, 0), table))
        self.assertLessEqual(whole, by_k + by_l + both)
        self.assertLessEqual(by_k, own_value(own_shared(4, one, other, third), table))
        self.assertLessEqual(by_l, own_value(own_shared(4, one, other, last), table))
        return min(whole, 2), min(by_k, 1), min(by_l, 1), min(both, 1)

    def test_all_orders(self):
        seen = {}
        for heap in heaps(511, 40, 6, 4, names=(4,)):
            for order in ORDERS:
                seen[self.expect(heap, *order)] = True
        self.assertGreater(len(seen), 8, seen)

    def test_forty_coins(self):
        chance = random.Random(512)
        for heap in [random_heap(4, 40, 40, chance) for _ in range(3)]:
            for order in ORDERS[::6]:
                self.expect(heap, *order)

    def test_by_hand(self):
        heap = (3, [[[0], [1]], [[0, 1], [2], []], [[0]], [[1], [0, 1, 2]]])
        self.assertEqual(four_shown(heap, 0, 1, 2, 3), ([[0, 1]], (1, 1, 1, 0)))
        self.assertEqual(four_shown(heap, 0, 2, 1, 3), ([[0]], (1, 1, 1, 1)))
        self.assertEqual(four_shown((0, [[], [[]], [], []]), 0, 1, 2, 3), ([], (0, 0, 0, 0)))


if __name__ == "__main__":
    unittest.main()
