import random
import unittest
from itertools import combinations

from heaps import heaps, is_heap, is_view, own_coin_table, own_knows, own_views, random_heap
from opening import all_openers as openers_of_any_kind
from opening import key_groups, openers_of_chance, own_least, own_opened, own_opens
from owning import expect_own
from reckoning import is_whole_list, names_of, own_rest, own_shared, own_value
from telltight.locks import lock_givens, lock_told
from telltight.safes import all_openers, both_safes, least_openers, opened_by, safe_of, turned_openers


def own_least_openers(n, openers):
    return own_least([g for g in key_groups(n) if own_opens(openers, g)])


def own_turned(n, openers):
    keys = 2 ** n - 2
    return own_least([g for g in key_groups(n) if not own_opens(openers, keys - g)])


def own_safe(n, openers):
    least = own_least_openers(n, openers)
    if least == [0]:
        return (0, [[[]]] + [[] for _ in range(n - 1)])
    views = {0: [[0]], **{key: [] for key in range(1, n)}}
    coin = 0
    for opener in least:
        *ahead, last = sorted(names_of(opener))
        closing = [0]
        for key in ahead:
            coin += 1
            views[key].append([coin])
            closing.append(coin)
        views[last].append(closing)
    return (coin + 1, [views[name] for name in range(n)])


def some_openers(seed, times):
    found = [(n, openers) for n in (2, 3, 4) for openers in openers_of_any_kind(n)]
    return found + openers_of_chance(seed, times)


class OpenersTest(unittest.TestCase):
    def test_least_openers(self):
        for n, openers in some_openers(231, 6):
            found = expect_own(self, least_openers, (n, openers))
            self.assertEqual(found, own_least_openers(n, openers), (n, openers))
            self.assertTrue(is_whole_list(found, len(found)))
            self.assertEqual(least_openers(n, found), found)

    def test_turned_openers(self):
        for n, openers in some_openers(232, 6):
            found = expect_own(self, turned_openers, (n, openers))
            self.assertEqual(found, own_turned(n, openers), (n, openers))
            self.assertTrue(is_whole_list(found, len(found)))
            self.assertEqual(turned_openers(n, found), own_least_openers(n, openers), (n, openers))

    def test_all_openers(self):
        for n, many in ((2, 3), (3, 6), (4, 20)):
            found = expect_own(self, all_openers, (n,))
            wanted = sorted([list(groups) for k in range(2 ** (n - 1) + 1) for groups in combinations(key_groups(n), k)
                             if own_least(groups) == list(groups)])
            self.assertEqual(len(found), many)
            self.assertEqual(found, wanted)
            self.assertTrue(all(is_whole_list(groups, len(groups)) for groups in found))
            each = {tuple(own_least_openers(n, openers)) for openers in openers_of_any_kind(n)}
            self.assertEqual({tuple(groups) for groups in found}, each)

    def test_by_hand(self):
        self.assertEqual(least_openers(4, [12, 6, 14, 6]), [6, 12])
        self.assertEqual(least_openers(4, [12, 0]), [0])
        self.assertEqual(least_openers(4, []), [])
        self.assertEqual(turned_openers(4, [6, 12]), [4, 10])
        self.assertEqual(turned_openers(4, []), [0])
        self.assertEqual(turned_openers(4, [0, 2]), [])
        self.assertEqual(turned_openers(4, [14]), [2, 4, 8])
        self.assertEqual(turned_openers(4, [6, 10, 12]), [6, 10, 12])
        self.assertEqual(all_openers(2), [[], [0], [2]])
        self.assertEqual(all_openers(3), [[], [0], [2], [2, 4], [4], [6]])
        self.assertEqual(all_openers(4)[:9], [[], [0], [2], [2, 4], [2, 4, 8], [2, 8], [2, 12], [4], [4, 8]])


class SafeTest(unittest.TestCase):
    def test_coin_by_coin(self):
        for n, openers in some_openers(241, 6):
            found = expect_own(self, safe_of, (n, openers))
            self.assertTrue(is_heap(found, n), found)
            self.assertEqual(found, own_safe(n, openers), (n, openers))

    def test_just_the_openers_know(self):
        for n, openers in some_openers(242, 2):
            heap = safe_of(n, openers)
            table = own_coin_table(heap)
            for g in key_groups(n):
                knows = all(own_knows(heap, g, view) for view in heap[1][0])
                self.assertEqual(knows, own_opens(openers, g), (n, openers, g))
                if g and not knows:
                    self.assertEqual(own_value(own_shared(n, 1, g, 0), table), 0, (n, openers, g))
                if knows and not own_opens(openers, 0):
                    self.assertEqual(own_value(own_rest(n, 1, g), table), 0)
            self.assertEqual(lock_told(n, openers, table), [])
            if not own_opens(openers, 0):
                for row, sign, number in lock_givens(n, openers):
                    self.assertEqual(own_value(row, table), number, (n, openers))

    def test_opened_by_the_least_openers(self):
        for n, openers in some_openers(243, 3):
            self.assertEqual(opened_by(safe_of(n, openers)), own_least_openers(n, openers), (n, openers))

    def test_by_hand(self):
        self.assertEqual(safe_of(4, [6, 12]), (3, [[[0]], [[1]], [[0, 1], [2]], [[0, 2]]]))
        self.assertEqual(safe_of(4, [14]), (3, [[[0]], [[1]], [[2]], [[0, 1, 2]]]))
        self.assertEqual(safe_of(4, [2, 12, 14]), (2, [[[0]], [[0]], [[1]], [[0, 1]]]))
        self.assertEqual(safe_of(2, []), (1, [[[0]], []]))
        self.assertEqual(safe_of(3, [0]), (0, [[[]], [], []]))
        self.assertEqual(safe_of(3, [6, 0, 2]), (0, [[[]], [], []]))
        self.assertEqual(safe_of(4, [6, 10, 12]), (4, [[[0]], [[1], [2]], [[0, 1], [3]], [[0, 2], [0, 3]]]))


class OpenedTest(unittest.TestCase):
    def test_heaps_by_draws(self):
        seen = {}
        for heap in heaps(251, 60, 6, 3, names=(2, 3, 4)) + heaps(252, 4, 40, 40, names=(2, 3, 4)):
            found = expect_own(self, opened_by, (heap,))
            self.assertEqual(found, own_opened(heap), heap)
            self.assertTrue(is_whole_list(found, len(found)))
            seen[tuple(found)] = True
        self.assertTrue(() in seen and (0,) in seen and len(seen) > 10, seen)

    def test_by_hand(self):
        self.assertEqual(opened_by((0, [[], []])), [0])
        self.assertEqual(opened_by((1, [[[]], [[0]]])), [0])
        self.assertEqual(opened_by((1, [[[0]], [[]]])), [])
        self.assertEqual(opened_by((2, [[[0], [1]], [[0]], [[1], [0, 1]]])), [4])
        self.assertEqual(opened_by((2, [[[0], [1]], [[0]], [[1]], [[0, 1]]])), [6, 10, 12])


class BothTest(unittest.TestCase):
    def expect(self, one, other):
        n, many = len(one[1]), one[0]
        found = expect_own(self, both_safes, (one, other))
        self.assertTrue(is_heap(found, n), found)
        self.assertEqual(found[0], many + other[0])
        self.assertEqual(found[1][0], [one[1][0][0] + [coin + many for coin in other[1][0][0]]])
        self.assertTrue(is_view(found[1][0][0], found[0]))
        for key in range(1, n):
            self.assertEqual(found[1][key], one[1][key] + [[coin + many for coin in view] for view in other[1][key]])
        for g in key_groups(n):
            both = own_knows(one, g, one[1][0][0]) and own_knows(other, g, other[1][0][0])
            self.assertEqual(own_knows(found, g, found[1][0][0]), both, (one, other, g))
        return found

    def test_two_safes(self):
        for n in (2, 3, 4):
            for one in all_openers(n):
                for other in all_openers(n)[::2]:
                    found = self.expect(safe_of(n, one), safe_of(n, other))
                    both = [g for g in key_groups(n) if own_opens(one, g) and own_opens(other, g)]
                    self.assertEqual(opened_by(found), own_least(both), (n, one, other))

    def test_heaps_by_draws(self):
        chance = random.Random(261)
        for heap in heaps(262, 40, 6, 3, names=(2, 3, 4)):
            other = random_heap(len(heap[1]), chance.choice((0, 3, 6)), 3, chance)
            for one in (heap, other):
                one[1][0][:] = [list(chance.choice(own_views(one, 2 ** len(one[1]) - 1) or [[]]))]
            self.expect(heap, other)
            self.expect(other, heap)
            self.expect(heap, heap)

    def test_by_hand(self):
        self.assertEqual(both_safes(safe_of(3, [2]), safe_of(3, [4])), (2, [[[0, 1]], [[0]], [[1]]]))
        self.assertEqual(both_safes((0, [[[]], []]), (2, [[[0, 1]], [[1], []]])), (2, [[[0, 1]], [[1], []]]))


if __name__ == "__main__":
    unittest.main()
