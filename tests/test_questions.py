import copy
import random
import unittest

from asking import FAR, cone_table, questions
from reckoning import (groups, is_told_form, lists_in, numbers_in, own_holds, own_rest, own_rules, own_shared,
                       own_unsure, own_value)
from telltight.questions import answer


def turned(row):
    return [-number for number in row]


def all_rests_and_shared(n):
    found = []
    for a in groups(n):
        for c in [0] + groups(n):
            found.append(own_rest(n, a, c))
            found += [own_shared(n, a, b, c) for b in groups(n) if b >= a]
    return found


def few(n):
    """The rows of rests and shared, each once; of four names a part of them."""
    found = []
    for row in all_rests_and_shared(n):
        if row not in found:
            found.append(row)
    return found if n < 4 else found[::4]


class AnswerCase(unittest.TestCase):
    def expect(self, n, givens, goal):
        """The answer, held against point 11 by the tests' own reckoning."""
        found = answer(n, givens, goal)
        self.assertTrue(is_told_form(n, givens, found), (n, givens, goal, found))
        self.assertTrue(own_holds(n, givens, goal, found), (n, givens, goal, found))
        return found

    def expect_least(self, n, givens, goal, value):
        found = self.expect(n, givens, goal)
        self.assertEqual(found[:2], ("least", value), (n, givens, goal))

    def expect_making(self, n, givens, goal, making):
        self.assertEqual(self.expect(n, givens, goal)[0], making, (n, givens, goal))


class ManyQuestionsTest(AnswerCase):
    def test_of_all_kinds(self):
        seen = {}
        for n, givens, goal in questions(11, 12):
            making = self.expect(n, givens, goal)[0]
            seen[n, making] = seen.get((n, making), 0) + 1
        for n in (1, 2, 3, 4):
            for making in ("least", "endless", "never"):
                self.assertGreater(seen.get((n, making), 0), 10, (n, making))

    def test_each_number_of_givens(self):
        chance = random.Random(12)
        for n in (1, 2, 3, 4):
            for many in range(10):
                table = cone_table(n, chance, 9)
                rows = [[chance.randint(-2, 3) for _ in groups(n)] for _ in range(many + 1)]
                for signs in ("=", ">", "=>"):
                    givens = [(row, chance.choice(signs), own_value(row, table)) for row in rows[1:]]
                    self.assertNotEqual(self.expect(n, givens, rows[0])[0], "never")

    def test_forty_figures_everywhere(self):
        chance = random.Random(13)
        for n in (1, 2, 3, 4):
            for many in (1, 4, 9):
                for _ in range(6):
                    numbers = [chance.randint(-FAR, FAR) for _ in range((many + 1) * (2 ** n))]
                    rows = [numbers[k * 2 ** n:(k + 1) * 2 ** n] for k in range(many + 1)]
                    givens = [(row[1:], chance.choice("=>"), row[0]) for row in rows[1:]]
                    found = self.expect(n, givens, rows[0][1:])
                    self.assertLess(max(abs(number) for number in numbers_in(found)), 10 ** 2000)

    def test_forty_figures_that_a_table_keeps(self):
        chance = random.Random(14)
        for n in (1, 2, 3, 4):
            for many in (1, 5, 9):
                for _ in range(6):
                    table = cone_table(n, chance, 3)
                    rows = [[chance.randint(-10 ** 38, 10 ** 38) for _ in groups(n)] for _ in range(many + 1)]
                    givens = [(row, chance.choice("=>"), own_value(row, table)) for row in rows[1:]]
                    found = self.expect(n, givens, rows[0])
                    self.assertNotEqual(found[0], "never")
                    self.assertLess(max(abs(number) for number in numbers_in(found)), 10 ** 2000)


class EdgeTest(AnswerCase):
    def test_one_name(self):
        self.expect_least(1, [], [1], (0, 1))
        self.expect_least(1, [([1], ">", 5)], [3], (15, 1))
        self.expect_least(1, [([3], "=", 2)], [1], (2, 3))
        self.expect_least(1, [([-3], "=", -2)], [-6], (-4, 1))
        self.expect_least(1, [([-1], ">", -7)], [-1], (-7, 1))
        self.expect_making(1, [], [-1], "endless")
        self.expect_making(1, [([1], ">", 5)], [-1], "endless")
        self.expect_making(1, [([1], "=", -1)], [1], "never")
        self.expect_making(1, [([-1], ">", 1)], [0], "never")

    def test_goals_of_noughts(self):
        for n in (1, 2, 3, 4):
            noughts = [0] * (2 ** n - 1)
            self.expect_least(n, [], noughts, (0, 1))
            self.expect_least(n, [(own_unsure(n, 1), ">", FAR)], noughts, (0, 1))
            self.expect_making(n, [(own_unsure(n, 1), "=", -FAR)], noughts, "never")

    def test_rows_of_noughts(self):
        for n in (1, 2, 3, 4):
            noughts = [0] * (2 ** n - 1)
            goal = own_unsure(n, 1)
            for sign in "=>":
                self.expect_least(n, [(noughts, sign, 0)] * 9, goal, (0, 1))
                self.expect_making(n, [(noughts, sign, 1)], goal, "never")
                self.expect_making(n, [(noughts, sign, FAR)], noughts, "never")
            self.expect_least(n, [(noughts, ">", -1), (noughts, ">", -FAR)], goal, (0, 1))
            self.expect_making(n, [(noughts, ">", -1)], turned(goal), "endless")
            self.expect_making(n, [(noughts, "=", -1)], goal, "never")

    def test_givens_that_stand_twice(self):
        for n in (1, 2, 3, 4):
            row = own_unsure(n, 2 ** n - 1)
            for sign in "=>":
                self.expect_least(n, [(row, sign, 6)] * 2, row, (6, 1))
                self.expect_least(n, [(row, sign, 6)] * 9, row, (6, 1))

    def test_givens_that_hang_on_one_another(self):
        one, other, both = [1, 0, 0], [0, 1, 0], [1, 1, 0]
        self.expect_least(2, [(one, "=", 3), (other, "=", 4), (both, "=", 7)], [0, 0, 1], (4, 1))
        self.expect_least(2, [(both, "=", 7), (one, "=", 3), (other, "=", 4)], [0, 0, -1], (-7, 1))
        self.expect_least(2, [(both, "=", 0), (one, ">", 0), (other, "=", 0)], [0, 0, -1], (0, 1))
        self.expect_making(2, [(one, "=", 3), (other, "=", 4), (both, "=", 8)], [0, 0, 1], "never")

    def test_givens_that_gainsay_one_another(self):
        for n in (1, 2, 3, 4):
            for goal in (own_unsure(n, 1), [0] * (2 ** n - 1), [-1] * (2 ** n - 1)):
                row = own_unsure(n, 1)
                self.expect_making(n, [(row, "=", 1), (row, "=", 2)], goal, "never")
                self.expect_making(n, [(row, ">", 3), (row, "=", 2)], goal, "never")
                self.expect_making(n, [(row, ">", FAR), (turned(row), ">", -FAR + 1)], goal, "never")

    def test_values_that_are_no_whole_numbers(self):
        pairs = [(own_unsure(3, g), "=", 1) for g in (3, 5, 6)]
        self.expect_least(3, pairs, turned(own_unsure(3, 7)), (-3, 2))
        self.expect_least(1, [([FAR], "=", 1)], [1], (1, FAR))


class KnownAnswersTest(AnswerCase):
    def test_with_nothing_given(self):
        for n in (1, 2, 3, 4):
            for row in [own_unsure(n, a) for a in groups(n)] + few(n):
                self.expect_least(n, [], row, (0, 1))
                if any(row):
                    self.expect_making(n, [], turned(row), "endless")
                else:
                    self.expect_least(n, [], turned(row), (0, 1))

    def test_what_is_to_be_below_nought(self):
        for n in (1, 2, 3, 4):
            goal = own_unsure(n, 1)
            for row in few(n):
                self.expect_making(n, [(row, "=", -1)], goal, "never")
                self.expect_making(n, [(turned(row), ">", 1)], turned(goal), "never")

    def test_names_given(self):
        chance = random.Random(15)
        for n in (1, 2, 3, 4):
            for most in (0, 1, 4, FAR):
                for _ in range(4):
                    numbers = [chance.randint(0, most) for _ in range(n)]
                    givens = [(own_unsure(n, 1 << k), "=", number) for k, number in enumerate(numbers)]
                    chance.shuffle(givens)
                    together = own_unsure(n, 2 ** n - 1)
                    self.expect_least(n, givens, together, (max(numbers), 1))
                    self.expect_least(n, givens, turned(together), (-sum(numbers), 1))

    def test_nine_givens_of_a_lock(self):
        # The name 0 is a lock; each two of the three keys make sure of it and each one alone tells nothing of it.
        givens = [(own_unsure(4, 1), "=", 1), (own_rest(4, 1, 0), ">", 0)]
        for keys in range(2, 16, 2):
            opens = bin(keys).count("1") > 1
            givens.append((own_rest(4, 1, keys) if opens else own_shared(4, 1, keys, 0), "=", 0))
        self.assertEqual(len(givens), 9)
        keys_alone = [sum(numbers) for numbers in zip(*(own_unsure(4, g) for g in (2, 4, 8)))]
        self.expect_least(4, givens, keys_alone, (3, 1))


class SameEachTimeTest(AnswerCase):
    def test_told_twice_and_behind_others(self):
        asked = questions(16, 2)
        first = [answer(*question) for question in asked]
        again = [answer(*question) for question in reversed(asked)]
        self.assertEqual(first, again[::-1])

    def test_told_lists_may_be_changed(self):
        for question in questions(17, 2):
            first = answer(*question)
            kept = copy.deepcopy(first)
            for told in lists_in(first):
                told.append(5)
                told[0] = 77
            self.assertEqual(answer(*question), kept)

    def test_each_list_stands_at_one_place_alone(self):
        for n, givens, goal in questions(18, 2):
            told = lists_in(answer(n, givens, goal))
            handed = [givens, goal] + [given[0] for given in givens]
            self.assertEqual(len({id(thing) for thing in told}), len(told))
            self.assertFalse({id(thing) for thing in told} & {id(thing) for thing in handed})

    def test_what_was_handed_in_stays(self):
        for n, givens, goal in questions(19, 2):
            kept = copy.deepcopy((givens, goal))
            found = answer(n, givens, goal)
            self.assertEqual((givens, goal), kept)
            told = copy.deepcopy(found)
            givens.append(([1] * (2 ** n - 1), "=", 0))
            goal[0] += 1
            for given in givens:
                given[0][0] += 1
            self.assertEqual(found, told)

    def test_one_row_handed_in_at_several_places(self):
        row = own_unsure(3, 7)
        found = self.expect(3, [(row, "=", 4), (row, ">", 2)], row)
        self.assertEqual(found[:2], ("least", (4, 1)))
        self.assertEqual(row, own_unsure(3, 7))
        self.assertEqual(len(own_rules(3)) + 2, len(found[4]))


if __name__ == "__main__":
    unittest.main()
