import unittest

from reckoning import groups, is_whole_list, own_come_to, own_rest, own_rules, own_shared
from refusing import expect_all_refusals
from telltight.splits import split_rest, split_shared


class SplitsTest(unittest.TestCase):
    def expect_split(self, n, told, row):
        self.assertTrue(is_whole_list(told, len(own_rules(n))), told)
        self.assertGreaterEqual(min(told), 0)
        self.assertEqual(own_come_to(n, [], told)[0], row)

    def test_written_out(self):
        self.assertEqual(split_rest(1, 1, 0), [1])
        self.assertEqual(split_rest(2, 1, 2), [1, 0, 0])
        self.assertEqual(split_rest(2, 3, 0), [1, 1, 1])
        self.assertEqual(split_shared(2, 1, 2, 0), [0, 0, 1])
        self.assertEqual(split_shared(2, 1, 1, 2), [1, 0, 0])

    def test_all_rests(self):
        for n in (1, 2, 3, 4):
            for a in groups(n):
                for b in [0] + groups(n):
                    self.expect_split(n, split_rest(n, a, b), own_rest(n, a, b))

    def test_all_shared(self):
        for n in (1, 2, 3, 4):
            for a in groups(n):
                for b in groups(n):
                    for c in [0] + groups(n):
                        self.expect_split(n, split_shared(n, a, b, c), own_shared(n, a, b, c))

    def test_rows_of_noughts_take_no_rule(self):
        for n in (1, 2, 3, 4):
            for a in groups(n):
                self.assertEqual(sum(split_rest(n, a, a)), 0)
                self.assertEqual(sum(split_shared(n, a, 1, a)), 0)

    def test_refusals(self):
        expect_all_refusals(self, split_rest, (False, True))
        expect_all_refusals(self, split_shared, (False, False, True))

    def test_told_lists_may_be_changed(self):
        for function, arguments in ((split_rest, (3, 5, 2)), (split_shared, (3, 3, 6, 0))):
            first = function(*arguments)
            kept = list(first)
            first[0] = 99
            first.pop()
            self.assertEqual(function(*arguments), kept)


if __name__ == "__main__":
    unittest.main()
