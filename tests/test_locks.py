import copy
import random
import unittest

from asking import cone_table
from opening import all_openers, key_groups, openers_of_chance, own_opens
from reckoning import (groups, is_told_form, is_whole_list, lists_in, names_of, own_holds, own_rest, own_shared,
                       own_unsure, own_value)
from telltight.locks import lock_answer, lock_givens, lock_told, mattering


def own_mattering(n, openers):
    found = []
    for key in range(1, n):
        without = [g for g in key_groups(n) if key not in names_of(g)]
        if any(own_opens(openers, g + 2 ** key) and not own_opens(openers, g) for g in without):
            found.append(key)
    return found


def own_givens(n, openers):
    found = [(own_unsure(n, 1), "=", 1)]
    for group in key_groups(n):
        if own_opens(openers, group):
            found.append((own_rest(n, 1, group), "=", 0))
        elif group:
            found.append((own_shared(n, 1, group, 0), "=", 0))
    return found


def own_told(n, openers, table):
    found = []
    for group in key_groups(n):
        shares = own_value(own_shared(n, 1, group, 0), table) if group else 0
        if shares != (table[0] if own_opens(openers, group) else 0):
            found.append(group)
    return found


class MatteringTest(unittest.TestCase):
    def test_all_openers(self):
        seen = {}
        for n in (2, 3, 4):
            for openers in all_openers(n):
                found = mattering(n, openers)
                self.assertEqual(found, own_mattering(n, openers), (n, openers))
                self.assertTrue(is_whole_list(found, len(found)))
                seen[n, len(found)] = True
        self.assertEqual(len(seen), 2 + 3 + 4)

    def test_in_any_order_and_twice(self):
        for n, openers in openers_of_chance(101, 10):
            kept = list(openers)
            self.assertEqual(mattering(n, openers), own_mattering(n, openers), openers)
            self.assertEqual(openers, kept)

    def test_by_hand(self):
        self.assertEqual(mattering(2, []), [])
        self.assertEqual(mattering(2, [2]), [1])
        self.assertEqual(mattering(2, [0]), [])
        self.assertEqual(mattering(2, [2, 0]), [])
        self.assertEqual(mattering(4, [6, 2]), [1])
        self.assertEqual(mattering(4, [14, 8, 8]), [3])
        self.assertEqual(mattering(4, [6, 12]), [1, 2, 3])
        self.assertEqual(mattering(4, [6, 12, 4]), [2])
        self.assertEqual(mattering(3, [6, 6]), [1, 2])


class GivensTest(unittest.TestCase):
    def expect(self, n, openers):
        kept = list(openers)
        found = lock_givens(n, openers)
        self.assertEqual(found, own_givens(n, openers), (n, openers))
        self.assertEqual(openers, kept)
        self.assertIs(type(found), list)
        for given in found:
            self.assertTrue(type(given) is tuple and is_whole_list(given[0], 2 ** n - 1) and type(given[2]) is int)
        told = lists_in(found)
        self.assertEqual(len({id(thing) for thing in told}), len(told))

    def test_all_openers(self):
        for n in (2, 3, 4):
            for openers in all_openers(n):
                self.expect(n, openers)

    def test_in_any_order_and_twice(self):
        for n, openers in openers_of_chance(102, 3):
            self.expect(n, openers)

    def test_by_hand(self):
        lock = ([1, 0, 0], "=", 1)
        self.assertEqual(lock_givens(2, []), [lock, ([1, 1, -1], "=", 0)])
        self.assertEqual(lock_givens(2, [2]), [lock, ([0, -1, 1], "=", 0)])
        self.assertEqual(lock_givens(2, [0]), [lock, ([1, 0, 0], "=", 0), ([0, -1, 1], "=", 0)])
        found = lock_givens(3, [6])
        self.assertEqual(found, [([1, 0, 0, 0, 0, 0, 0], "=", 1), ([1, 1, -1, 0, 0, 0, 0], "=", 0),
                                 ([1, 0, 0, 1, -1, 0, 0], "=", 0), ([0, 0, 0, 0, 0, -1, 1], "=", 0)])

    def test_the_same_again(self):
        first = lock_givens(3, [2, 4])
        kept = copy.deepcopy(first)
        for given in first:
            given[0][0] = 44
        first.clear()
        self.assertEqual(lock_givens(3, [2, 4]), kept)


class AnswerTest(unittest.TestCase):
    def expect(self, n, openers):
        kept = list(openers)
        found = lock_answer(n, openers)
        self.assertEqual(openers, kept)
        givens = own_givens(n, openers)
        goal = [1 if g in (2, 4, 8) else 0 for g in groups(n)]
        self.assertTrue(is_told_form(n, givens, found), (n, openers, found))
        self.assertTrue(own_holds(n, givens, goal, found), (n, openers, found))
        if 0 in openers:
            self.assertEqual(found[0], "never", (n, openers))
        else:
            self.assertEqual(found[:2], ("least", (len(own_mattering(n, openers)), 1)), (n, openers))
        return found

    def test_all_openers(self):
        for n in (2, 3, 4):
            for openers in all_openers(n):
                self.expect(n, openers)

    def test_in_any_order_and_twice(self):
        for n, openers in openers_of_chance(103, 1):
            self.expect(n, openers)

    def test_the_same_again(self):
        for openers in ([], [2], [2, 4], [6, 10], [0]):
            first = lock_answer(4, openers)
            kept = copy.deepcopy(first)
            for told in lists_in(first):
                told.append(5)
                told[0] = 66
            self.assertEqual(lock_answer(4, openers), kept)


class ToldTest(unittest.TestCase):
    def expect(self, n, openers, table):
        kept = copy.deepcopy((openers, table))
        found = lock_told(n, openers, table)
        self.assertEqual((openers, table), kept)
        self.assertEqual(found, own_told(n, openers, table), (n, openers, table))
        self.assertTrue(is_whole_list(found, len(found)))
        return found

    def test_tables_that_tell_all_rightly(self):
        for n in (2, 3, 4):
            for openers in all_openers(n):
                if 0 not in openers:
                    numbers, below = lock_answer(n, openers)[2]
                    self.assertEqual(self.expect(n, openers, numbers), [])
                self.assertEqual(self.expect(n, openers, [0] * (2 ** n - 1)), [])

    def test_one_group_told_wrongly(self):
        for n in (2, 3, 4):
            for openers in list(all_openers(n))[::3]:
                if 0 not in openers:
                    numbers, below = lock_answer(n, openers)[2]
                    for group in key_groups(n)[1:]:
                        for by in (1, -1):
                            table = list(numbers)
                            table[(group | 1) - 1] += by
                            self.assertEqual(self.expect(n, openers, table), [group])

    def test_nobody_told_wrongly(self):
        for n in (2, 3, 4):
            for number in (1, -1, 5):
                # All open: each group shares the lock's number with it, but nobody, who shares nought.
                table = [number if g & 1 else 0 for g in groups(n)]
                openers = [0]
                shares = self.expect(n, openers, table)
                self.assertIn(0, shares)
                self.assertNotIn(0, self.expect(n, [2], table))
            table = [1] * (2 ** n - 1)
            self.assertEqual(self.expect(n, [0], table), [0])
            self.assertEqual(self.expect(n, [0, 2], table), [0])
            self.assertEqual(self.expect(n, [], table), key_groups(n)[1:])

    def test_any_tables(self):
        chance = random.Random(104)
        for n, openers in openers_of_chance(105, 4):
            self.expect(n, openers, cone_table(n, chance, 2))
            self.expect(n, openers, [chance.randint(-2, 2) for _ in groups(n)])

    def test_the_same_again(self):
        first = lock_told(3, [2], [1] * 7)
        kept = list(first)
        first.append(1)
        first[0] = 9
        self.assertEqual(lock_told(3, [2], [1] * 7), kept)


if __name__ == "__main__":
    unittest.main()
