import random
import unittest

from asking import FAR, cone_table, number_maker
from owning import expect_own
from reckoning import groups, is_whole_list, names_of, own_value
from telltight.parts import part_row, parts_of, table_of_parts


def own_table(n, parts):
    return [sum(part for h, part in zip(groups(n), parts) if names_of(g) & names_of(h)) for g in groups(n)]


def tables(seed, times):
    """Tables that keep the rules and any other ones, of one to four names."""
    chance = random.Random(seed)
    found = []
    for n in (1, 2, 3, 4):
        found += [(n, [0] * (2 ** n - 1)), (n, [FAR] * (2 ** n - 1)), (n, [-FAR] * (2 ** n - 1))]
        found += [(n, [FAR if g == h else -FAR for g in groups(n)]) for h in groups(n)]
        for _ in range(times):
            for most in (1, 5, 10 ** 38):
                found.append((n, cone_table(n, chance, most)))
            for kind in ("small", "sparse", "upward", "far"):
                make = number_maker(chance, kind)
                found.append((n, [make() for _ in groups(n)]))
    return found


class PartsTest(unittest.TestCase):
    def test_each_number_is_the_sum_of_the_parts_that_meet_it(self):
        for n, table in tables(111, 12):
            parts = expect_own(self, parts_of, (n, table))
            self.assertTrue(is_whole_list(parts, 2 ** n - 1))
            self.assertEqual(own_table(n, parts), table, (n, table))

    def test_tables_of_parts(self):
        for n, parts in tables(112, 12):
            table = expect_own(self, table_of_parts, (n, parts))
            self.assertTrue(is_whole_list(table, 2 ** n - 1))
            self.assertEqual(table, own_table(n, parts), (n, parts))

    def test_there_and_back(self):
        for n, numbers in tables(113, 12):
            self.assertEqual(parts_of(n, table_of_parts(n, numbers)), numbers)
            self.assertEqual(table_of_parts(n, parts_of(n, numbers)), numbers)

    def test_part_rows_at_tables(self):
        for n, parts in tables(114, 6):
            table = own_table(n, parts)
            rows = [part_row(n, g) for g in groups(n)]
            self.assertEqual([own_value(row, table) for row in rows], parts, (n, parts))

    def test_part_rows_of_all_groups(self):
        for n in (1, 2, 3, 4):
            for g in groups(n):
                row = expect_own(self, part_row, (n, g))
                self.assertTrue(is_whole_list(row, 2 ** n - 1))
                for h in groups(n):
                    alone = own_table(n, [1 if k == h else 0 for k in groups(n)])
                    self.assertEqual(own_value(row, alone), 1 if g == h else 0, (n, g, h))

    def test_by_hand(self):
        self.assertEqual(parts_of(1, [5]), [5])
        self.assertEqual(parts_of(2, [3, 2, 4]), [2, 1, 1])
        self.assertEqual(parts_of(2, [1, 1, 5]), [4, 4, -3])
        self.assertEqual(parts_of(3, [1, 1, 2, 1, 2, 2, 2]), [0, 0, 1, 0, 1, 1, -1])
        self.assertEqual(table_of_parts(2, [2, 1, 1]), [3, 2, 4])
        self.assertEqual(table_of_parts(3, [0, 0, 1, 0, 1, 1, -1]), [1, 1, 2, 1, 2, 2, 2])
        self.assertEqual(part_row(1, 1), [1])
        self.assertEqual([part_row(2, g) for g in (1, 2, 3)], [[0, -1, 1], [-1, 0, 1], [1, 1, -1]])
        self.assertEqual(part_row(3, 7), [1, 1, -1, 1, -1, -1, 1])


if __name__ == "__main__":
    unittest.main()
