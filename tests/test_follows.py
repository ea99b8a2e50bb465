import copy
import random
import unittest

from asking import FAR, questions
from changing import other_lists, other_numbers, with_parts
from reckoning import (groups, is_told_follow, lists_in, numbers_in, own_follow_holds, own_rest, own_rules, own_shared,
                       own_unsure)
from telltight.follows import follow_holds, follows
from telltight.questions import answer


def turned(row):
    return [-number for number in row]


def sayings_asked(seed, times, names=(1, 2, 3, 4), most=9):
    """Questions of sayings: any number, and the whole numbers next to the least and the greatest value."""
    chance = random.Random(seed)
    found = []
    for n, givens, row in questions(seed, times, names, most):
        for sign in "=>":
            found.append((n, givens, (row, sign, chance.choice((0, chance.randint(-9, 9), FAR, -FAR)))))
        for line, turn in ((row, 1), (turned(row), -1)):
            told = answer(n, givens, line)
            if told[0] == "least":
                low = turn * (told[1][0] // told[1][1])
                found += [(n, givens, (row, "=", low)), (n, givens, (line, ">", turn * low)),
                          (n, givens, (line, ">", turn * low + 1)), (n, givens, (line, ">", turn * low - 1))]
    return found


class FollowsCase(unittest.TestCase):
    def expect(self, n, givens, saying):
        """What is told, held against point 13 by the tests' own reckoning."""
        found = follows(n, givens, saying)
        self.assertTrue(is_told_follow(n, givens, found), (n, givens, saying, found))
        self.assertTrue(own_follow_holds(n, givens, saying, found), (n, givens, saying, found))
        return found

    def expect_truth(self, n, givens, saying, truth):
        found = self.expect(n, givens, saying)
        self.assertIs(found[0], truth, (n, givens, saying))
        return found


class ManySayingsTest(FollowsCase):
    def test_of_all_kinds(self):
        seen = {}
        for n, givens, saying in sayings_asked(31, 4):
            found = self.expect(n, givens, saying)
            making = found[1][0][0] if found[0] else "no"
            seen[n, saying[1], making] = seen.get((n, saying[1], making), 0) + 1
            self.assertLess(max(abs(number) for number in numbers_in(found)), 10 ** 2000)
        for n in (1, 2, 3, 4):
            for sign in "=>":
                for making in ("by", "never", "no"):
                    self.assertGreater(seen.get((n, sign, making), 0), 3, (n, sign, making))

    def test_each_number_of_givens(self):
        seen = {}
        for n, givens, saying in sayings_asked(32, 2):
            self.expect(n, givens, saying)
            seen[len(givens)] = True
        self.assertEqual(sorted(seen), list(range(10)))

    def test_hanging_on_the_number(self):
        for n, givens, row in questions(33, 3):
            told = answer(n, givens, row)
            if told[0] == "least":
                low = told[1][0] // told[1][1]
                whole = told[1][1] == 1
                self.expect_truth(n, givens, (row, ">", low), True)
                self.expect_truth(n, givens, (row, ">", low - 1), True)
                self.expect_truth(n, givens, (row, ">", low + 1), False)
                settled = answer(n, givens, turned(row))[:2] == ("least", (-low, 1))
                self.expect_truth(n, givens, (row, "=", low), whole and settled)
                self.expect_truth(n, givens, (row, "=", low + 1), False)
            elif told[0] == "endless":
                for number in (0, FAR, -FAR):
                    self.expect_truth(n, givens, (row, ">", number), False)

    def test_where_givens_gainsay_one_another(self):
        for n, givens, row in questions(34, 3):
            if answer(n, givens, row)[0] == "never":
                for number in (0, FAR, -FAR):
                    for sign, many in ((">", 1), ("=", 2)):
                        found = self.expect_truth(n, givens, (row, sign, number), True)
                        self.assertEqual([paper[0] for paper in found[1]], ["never"] * many)


class KnownSayingsTest(FollowsCase):
    def test_rests_and_shared_from_nothing(self):
        for n in (1, 2, 3, 4):
            step = 1 if n < 4 else 3
            for a in groups(n)[::step]:
                for c in ([0] + groups(n))[::step]:
                    for row in [own_rest(n, a, c)] + [own_shared(n, a, b, c) for b in groups(n)[::step]]:
                        self.expect_truth(n, [], (row, ">", 0), True)
                        self.expect_truth(n, [], (row, ">", 1), False)
                        self.expect_truth(n, [], (row, "=", 0), not any(row))

    def test_a_row_of_noughts(self):
        for n in (1, 2, 3, 4):
            noughts = [0] * (2 ** n - 1)
            for givens in ([], [(noughts, "=", 0)], [(own_unsure(n, 1), ">", 3), (noughts, ">", -FAR)]):
                self.expect_truth(n, givens, (noughts, "=", 0), True)
                self.expect_truth(n, givens, (noughts, ">", 0), True)
                self.expect_truth(n, givens, (noughts, ">", -FAR), True)
                for sign, number in ((">", 1), (">", FAR), ("=", 1), ("=", -1), ("=", -FAR)):
                    self.expect_truth(n, givens, (noughts, sign, number), False)
            self.expect_truth(n, [(noughts, "=", 1)], (noughts, "=", 2), True)

    def test_the_givens_themselves(self):
        for n, givens, row in questions(35, 2):
            for saying in givens:
                self.expect_truth(n, givens, saying, True)
                self.expect_truth(n, givens, (saying[0], ">", saying[2]), True)

    def test_one_side_alone(self):
        row = own_unsure(2, 3)
        givens = [(row, ">", 4)]
        self.expect_truth(2, givens, (row, ">", 4), True)
        found = self.expect_truth(2, givens, (row, "=", 4), False)
        self.assertGreater(found[1][0][2], 4 * found[1][1])
        givens = [(turned(row), ">", -4)]
        self.expect_truth(2, givens, (row, "=", 4), False)
        self.expect_truth(2, givens + [(row, ">", 4)], (row, "=", 4), True)

    def test_papers_in_their_order(self):
        found = self.expect_truth(1, [([2], "=", 6)], ([1], "=", 3), True)
        self.assertEqual(found, (True, [("by", 2, [0, 1]), ("by", 2, [0, -1])]))
        found = self.expect_truth(1, [([1], "=", -2)], ([1], "=", 3), True)
        self.assertEqual(found, (True, [("never", [1, -1]), ("never", [1, -1])]))

    def test_numbers_that_are_no_whole_ones(self):
        pairs = [(own_unsure(3, g), "=", 1) for g in (3, 5, 6)]
        together = turned(own_unsure(3, 7))
        self.expect_truth(3, pairs, (together, ">", -2), True)
        self.expect_truth(3, pairs, (together, ">", -1), False)
        self.expect_truth(3, pairs, ([2 * x for x in together], ">", -3), True)
        self.expect_truth(3, pairs, ([2 * x for x in together], ">", -2), False)

    def test_far_along_a_way(self):
        for n in (1, 2, 3, 4):
            for number in (0, -1, -7, -FAR, FAR):
                self.expect_truth(n, [], (turned(own_unsure(n, 1)), ">", number), False)
                self.expect_truth(n, [(own_unsure(n, 1), ">", FAR)], (turned(own_unsure(n, 1)), ">", number), False)
                self.expect_truth(n, [], ([-FAR] + [0] * (2 ** n - 2), ">", number), False)


class SameEachTimeTest(FollowsCase):
    def test_told_twice_and_behind_others(self):
        asked = sayings_asked(36, 1)
        first = [follows(*question) for question in asked]
        again = [follows(*question) for question in reversed(asked)]
        self.assertEqual(first, again[::-1])

    def test_lists_are_the_askers_own(self):
        for n, givens, saying in sayings_asked(37, 1):
            kept = copy.deepcopy((givens, saying))
            found = follows(n, givens, saying)
            self.assertEqual((givens, saying), kept)
            told = lists_in(found)
            handed = lists_in((givens, saying))
            self.assertEqual(len({id(thing) for thing in told}), len(told))
            self.assertFalse({id(thing) for thing in told} & {id(thing) for thing in handed})
            copied = copy.deepcopy(found)
            for thing in told:
                thing.append(5)
                thing[0] = 77
            self.assertEqual(follows(n, givens, saying), copied)

    def test_what_was_handed_in_may_be_changed(self):
        for question in sayings_asked(38, 1):
            n, givens, saying = copy.deepcopy(question)
            found = follows(n, givens, saying)
            copied = copy.deepcopy(found)
            for row in [given[0] for given in givens] + [saying[0]]:
                row[0] += 78
                row.append(3)
            givens.append(([0] * (2 ** n - 1), "=", 1))
            self.assertEqual(found, copied)


def scaled(found, by):
    """The same told with papers or table not in lowest terms."""
    if not found[0]:
        return (False, ([x * by for x in found[1][0]], found[1][1] * by))
    papers = []
    for paper in found[1]:
        weights = [x * by for x in paper[-1]]
        papers.append(("by", paper[1] * by, weights) if paper[0] == "by" else ("never", weights))
    return (True, papers)


def exchanged(paper):
    if paper[0] == "by":
        return [("never", list(paper[2]))]
    return [("by", times, list(paper[1])) for times in (1, 2, 0)]


class LookerTest(unittest.TestCase):
    def expect(self, question, found):
        """follow_holds says just what the tests' own reckoning says; told is what."""
        kept = copy.deepcopy((question, found))
        said = follow_holds(*question, found)
        self.assertIs(said, own_follow_holds(*question, found), (question, found))
        self.assertEqual((question, found), kept)
        return said

    def test_told_ones_are_let_by(self):
        for question in sayings_asked(41, 2):
            self.assertIs(follow_holds(*question, follows(*question)), True)

    def test_need_not_be_in_lowest_terms(self):
        for question in sayings_asked(42, 1):
            found = follows(*question)
            for by in (2, FAR):
                self.assertIs(self.expect(question, scaled(found, by)), True)
            self.assertIs(self.expect(question, scaled(found, 0)), False)
            self.assertIs(self.expect(question, scaled(found, -1)), False)

    def test_each_number_changed(self):
        seen = {}
        for question in sayings_asked(43, 1)[::3]:
            found = follows(*question)
            making = found[1][0][0] if found[0] else "no"
            for other in with_parts(found, other_numbers):
                said = making, self.expect(question, other)
                seen[said] = seen.get(said, 0) + 1
        for making in ("by", "never", "no"):
            self.assertGreater(seen.get((making, False), 0), 100)
            self.assertGreater(seen.get((making, True), 0), 20, "changed ones that hold all the same")

    def test_each_list_longer_or_shorter(self):
        for question in sayings_asked(44, 1)[::2]:
            for other in with_parts(follows(*question), other_lists):
                self.assertIs(self.expect(question, other), False)

    def test_papers_left_out_twice_or_in_another_order(self):
        for question in sayings_asked(45, 1):
            found = follows(*question)
            if found[0]:
                papers = found[1]
                for wrong in (papers[:-1], papers[1:], papers + papers[:1], papers + papers, []):
                    if len(wrong) != len(papers):
                        self.assertIs(self.expect(question, (True, wrong)), False)
                self.expect(question, (True, papers[::-1]))
                self.expect(question, (True, papers[:1] * len(papers)))

    def test_papers_of_a_saying_with_the_other_sign(self):
        for n, givens, (row, sign, number) in sayings_asked(46, 1):
            found = follows(n, givens, (row, sign, number))
            other = (row, "=" if sign == ">" else ">", number)
            if found[0]:
                self.assertIs(self.expect((n, givens, other), found), False)
            else:
                self.expect((n, givens, other), found)

    def test_the_truth_turned_about(self):
        for question in sayings_asked(47, 1):
            n, givens, saying = question
            found = follows(*question)
            self.assertIs(follow_holds(*question, (not found[0], found[1])), False)
            if found[0]:
                told = answer(n, givens, saying[0])
                for table in (([0] * (2 ** n - 1), 1), told[2] if told[0] == "least" else ([1] * (2 ** n - 1), 1)):
                    self.assertIs(self.expect(question, (False, table)), False)
            else:
                many = len(own_rules(n)) + len(givens)
                papers = [("by", 1, [0] * many), ("never", [0] * many)]
                for wrong in (papers[:1], papers[1:], papers, papers[:1] * 2, papers[1:] * 2, []):
                    self.assertIs(self.expect(question, (True, wrong)), False)

    def test_a_by_and_a_never_exchanged(self):
        seen = {True: 0, False: 0}
        for question in sayings_asked(48, 1):
            found = follows(*question)
            for place, paper in enumerate(found[1] if found[0] else []):
                for other in exchanged(paper):
                    papers = found[1][:place] + [other] + found[1][place + 1:]
                    seen[self.expect(question, (True, papers))] += 1
        # Weights that come to noughts and to a number above nought show a row of noughts, too.
        self.assertGreater(seen[False], 100)

    def test_a_word_alone_exchanged(self):
        question = (1, [([1], "=", -1)], ([0], ">", 0))
        for paper in (("never", 1, [1, -1]), ("by", [1, -1]), ("so", 1, [0, 0]), ("so", [1, -1])):
            self.assertIs(follow_holds(*question, (True, [paper])), False)

    def test_a_by_of_noughts(self):
        question = (1, [([1], "=", -1)], ([0], ">", 0))
        self.assertIs(self.expect(question, (True, [("never", [1, -1])])), True)
        self.assertIs(self.expect(question, (True, [("by", 1, [1, -1])])), True)
        self.assertIs(self.expect(question, (True, [("by", 1, [0, 0])])), True)
        self.assertIs(self.expect(question, (True, [("by", 2, [1, -1])])), True)
        self.assertIs(self.expect((1, [([1], "=", -1)], ([0], ">", 1)), (True, [("by", 1, [1, -1])])), True)
        self.assertIs(self.expect((1, [([1], "=", -1)], ([0], ">", 1)), (True, [("by", 2, [1, -1])])), False)

    def test_written_by_hand(self):
        question = (1, [([1], ">", 2)], ([3], ">", 5))
        self.assertIs(self.expect(question, (True, [("by", 1, [0, 3])])), True)
        self.assertIs(self.expect(question, (True, [("by", 1, [1, 2])])), False)
        self.assertIs(self.expect(question, (True, [("by", 4, [0, 12])])), True)
        self.assertIs(self.expect(question, (True, [("by", 6, [3, 15])])), True)
        self.assertIs(self.expect(question, (True, [("by", 6, [4, 14])])), False)
        self.assertIs(self.expect(question, (True, [("by", 0, [0, 0])])), False)
        self.assertIs(self.expect(question, (True, [("by", 1, [4, -1])])), False)
        self.assertIs(self.expect(question, (False, ([2], 1))), False)
        self.assertIs(self.expect((1, [([1], ">", 2)], ([3], ">", 7)), (False, ([2], 1))), True)
        self.assertIs(self.expect((1, [([1], ">", 2)], ([3], ">", 7)), (False, ([4], 2))), True)
        for wrong in (([2], 0), ([-2], -1), ([3], 1), ([1], 1), ([2, 2], 1), ([], 1)):
            self.assertIs(self.expect((1, [([1], ">", 2)], ([3], ">", 7)), (False, wrong)), False)

    def test_tables_on_both_sides_break_a_saying_that_names_a_number(self):
        question = (1, [], ([1], "=", 2))
        for numbers, wanted in (([1], True), ([3], True), ([2], False)):
            self.assertIs(self.expect(question, (False, (numbers, 1))), wanted)


if __name__ == "__main__":
    unittest.main()
