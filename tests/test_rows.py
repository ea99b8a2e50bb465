import random
import unittest

from reckoning import groups, own_rest, own_shared, own_unsure
from refusing import BAD_COUNTS, expect_all_refusals, expect_refusal
from telltight.rows import greatest, rest, shared, unsure, value

FAR = 10 ** 40 - 1


class RowsTest(unittest.TestCase):
    def test_greatest(self):
        self.assertEqual([greatest(n) for n in (1, 2, 3, 4)], [1, 3, 7, 15])

    def test_written_out(self):
        self.assertEqual(unsure(2, 3), [0, 0, 1])
        self.assertEqual(rest(2, 1, 2), [0, -1, 1])
        self.assertEqual(rest(2, 1, 0), [1, 0, 0])
        self.assertEqual(shared(2, 1, 2, 0), [1, 1, -1])
        self.assertEqual(shared(3, 1, 2, 4), [0, 0, 0, -1, 1, 1, -1])

    def test_same_groups_are_added_up(self):
        for n in (1, 2, 3, 4):
            noughts = [0] * (2 ** n - 1)
            for a in groups(n):
                self.assertEqual(rest(n, a, a), noughts)
                self.assertEqual(shared(n, a, a, 0), own_unsure(n, a))
                for b in groups(n):
                    self.assertEqual(shared(n, a, b, a), noughts)
                    self.assertEqual(shared(n, a, b, b), noughts)
                    if a & b == a:
                        self.assertEqual(rest(n, a, b), noughts)
                        self.assertEqual(shared(n, a, b, 0), own_unsure(n, a))

    def test_all_unsure(self):
        for n in (1, 2, 3, 4):
            for a in groups(n):
                self.assertEqual(unsure(n, a), own_unsure(n, a))

    def test_all_rests(self):
        for n in (1, 2, 3, 4):
            for a in groups(n):
                for b in [0] + groups(n):
                    self.assertEqual(rest(n, a, b), own_rest(n, a, b), (n, a, b))

    def test_all_shared(self):
        for n in (1, 2, 3, 4):
            for a in groups(n):
                for b in groups(n):
                    for c in [0] + groups(n):
                        self.assertEqual(shared(n, a, b, c), own_shared(n, a, b, c), (n, a, b, c))

    def test_rows_are_lists_of_whole_numbers(self):
        for row in (unsure(3, 5), rest(3, 5, 2), rest(3, 5, 5), shared(3, 5, 3, 2)):
            self.assertIs(type(row), list)
            self.assertEqual({type(number) for number in row}, {int})


class ValueTest(unittest.TestCase):
    def test_place_by_place(self):
        self.assertEqual(value([1], [5]), 5)
        self.assertEqual(value([2, 0, -3], [5, 7, 11]), -23)
        self.assertEqual(value([0] * 15, list(range(15))), 0)
        self.assertEqual(value(list(range(15)), [-1] * 15), -105)

    def test_forty_figures_of_either_sign(self):
        self.assertEqual(value([FAR, -FAR, 1], [FAR, FAR, -FAR]), -FAR)
        self.assertEqual(value([FAR] * 15, [FAR] * 15), 15 * FAR * FAR)
        self.assertEqual(value([-FAR] * 15, [FAR] * 15), -15 * FAR * FAR)

    def test_of_the_rows(self):
        chance = random.Random(5)
        for n in (1, 2, 3, 4):
            table = [chance.randint(-FAR, FAR) for _ in groups(n)]
            told = [0] + table
            for a in groups(n):
                for b in [0] + groups(n):
                    self.assertEqual(value(rest(n, a, b), table), told[a | b] - told[b])
                    if b:
                        c = chance.randrange(2 ** n)
                        wanted = told[a | c] + told[b | c] - told[a | b | c] - told[c]
                        self.assertEqual(value(shared(n, a, b, c), table), wanted)


class RefusalTest(unittest.TestCase):
    def test_greatest(self):
        for count in BAD_COUNTS:
            expect_refusal(self, "NoCount", "count", count, greatest, (count,))

    def test_unsure(self):
        expect_all_refusals(self, unsure, (False,))

    def test_rest(self):
        expect_all_refusals(self, rest, (False, True))

    def test_shared(self):
        expect_all_refusals(self, shared, (False, False, True))

    def test_nobody_where_it_may_be_is_not_refused(self):
        for n in (1, 2, 3, 4):
            self.assertEqual(rest(n, 1, 0), own_unsure(n, 1))
            self.assertEqual(shared(n, 1, 1, 0), own_unsure(n, 1))


class OwnListsTest(unittest.TestCase):
    def test_told_lists_may_be_changed(self):
        for function, arguments in ((unsure, (3, 5)), (rest, (3, 1, 2)), (shared, (3, 1, 2, 4))):
            first = function(*arguments)
            kept = list(first)
            first[0] = 99
            first.append(7)
            self.assertEqual(function(*arguments), kept)

    def test_what_was_handed_in_stays(self):
        row, table = [1, -2, 3], [4, 5, 6]
        value(row, table)
        self.assertEqual((row, table), ([1, -2, 3], [4, 5, 6]))


if __name__ == "__main__":
    unittest.main()
