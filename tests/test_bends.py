import copy
import random
import unittest
from fractions import Fraction

from asking import FAR, cone_table, questions
from reckoning import groups, is_fraction, lists_in, numbers_in, own_holds, own_unsure, own_value
from telltight.bends import bends, least_at, only_bends
from telltight.questions import answer


def told_fraction(number):
    number = Fraction(number)
    return (number.numerator, number.denominator)


def own_least_at(n, givens, place, goal, t):
    """The least by a question in which all numbers, and so all tables, are taken so often that t is whole."""
    t = Fraction(t)
    scaled = [(row, sign, number * t.denominator) for row, sign, number in givens]
    scaled[place] = (givens[place][0], "=", t.numerator)
    found = answer(n, scaled, goal)
    assert own_holds(n, scaled, goal, found)
    if found[0] == "least":
        return Fraction(found[1][0], found[1][1] * t.denominator)
    return found[0]


def curved_question(n, many, chance):
    """A goal that is held from below, by a row that goes both up and down, and givens that some table keeps."""
    table = cone_table(n, chance, 4)
    goal = [chance.randint(1, 9) for _ in groups(n)]
    rows = [[chance.randint(-3, 3) for _ in groups(n)] for _ in range(many)]
    return n, [(row, ">", own_value(row, table)) for row in rows], goal


def far_question(n, many, chance):
    table = cone_table(n, chance, 10 ** 3)
    goal = [chance.randint(0, FAR) for _ in groups(n)]
    rows = [[chance.randint(-10 ** 36, 10 ** 36) for _ in groups(n)] for _ in range(many)]
    return n, [(row, chance.choice("=>"), own_value(row, table)) for row in rows], goal


def moved_questions(seed, times):
    """Questions of one to six givens, with four names of one or two, and the place of one that moves."""
    chance = random.Random(seed)
    asked = [question for question in questions(seed, times, most=6) if question[1]]
    for n in (1, 2, 3, 4):
        for _ in range(6 * times):
            asked.append(curved_question(n, chance.randint(1, 6), chance))
            asked.append(far_question(n, chance.randint(1, 6), chance))
    found = []
    for n, givens, goal in asked:
        givens = givens[:2 if n == 4 else 6]
        place = chance.randrange(len(givens))
        givens[place] = (givens[place][0], "=", givens[place][2])
        found.append((n, givens, place, goal))
    return found


class BendsCase(unittest.TestCase):
    def least(self, question, t):
        """What least_at tells for t: a fraction, "never" or "endless"; held against a question."""
        told = least_at(*question, told_fraction(t))
        self.assertIs(type(told), tuple)
        if told[0] == "least":
            self.assertTrue(len(told) == 2 and is_fraction(told[1]), told)
        else:
            self.assertIn(told, (("never",), ("endless",)))
        found = Fraction(*told[1]) if told[0] == "least" else told[0]
        self.assertEqual(found, own_least_at(*question, t), (question, t))
        return found

    def expect(self, question):
        found = bends(*question)
        self.assertIs(type(found), tuple)
        if found[0] == "bends":
            self.expect_form(found)
            self.expect_stretches(question, found)
        else:
            self.assertIn(found, (("never",), ("endless",)))
            self.expect_nothing(question, found[0])
        return found

    def expect_nothing(self, question, making):
        n, givens, place, goal = question
        others = givens[:place] + givens[place + 1:]
        told = answer(n, others, givens[place][0])
        self.assertTrue(own_holds(n, others, givens[place][0], told))
        self.assertEqual(told[0] == "never", making == "never")
        for t in (0, 1, -1, Fraction(3, 7), -FAR):
            self.assertIn(self.least(question, t), ("never", making))
        if making == "endless":
            numbers, below = told[1] if told[0] == "endless" else told[2]
            t = Fraction(own_value(givens[place][0], numbers), below)
            self.assertEqual(self.least(question, t), "endless")

    def expect_form(self, found):
        self.assertEqual(len(found), 3)
        points, slopes = found[1:]
        self.assertTrue(type(points) is list and type(slopes) is list)
        for point in points:
            self.assertTrue(type(point) is tuple and len(point) == 2)
            self.assertTrue(is_fraction(point[0]) and is_fraction(point[1]), point)
        self.assertTrue(all(is_fraction(slope) for slope in slopes))
        for things in ([Fraction(*point[0]) for point in points], [Fraction(*slope) for slope in slopes]):
            self.assertTrue(all(one < other for one, other in zip(things, things[1:])), found)

    def open_sides(self, question):
        """Whether t has no least, and no greatest value with which it is not never."""
        n, givens, place, goal = question
        others = givens[:place] + givens[place + 1:]
        told = []
        for side in (1, -1):
            row = [side * x for x in givens[place][0]]
            found = answer(n, others, row)
            self.assertTrue(own_holds(n, others, row, found))
            told.append(found[0] == "endless")
        return told

    def expect_stretches(self, question, found):
        """The least curves upward, so three places on one straight line hold a whole stretch to it."""
        low_open, high_open = self.open_sides(question)
        points = [(Fraction(*t), Fraction(*least)) for t, least in found[1]]
        slopes = [Fraction(*slope) for slope in found[2]]
        if not points:
            self.assertEqual((low_open, high_open, len(slopes)), (True, True, 1))
            middle = (Fraction(0), self.least(question, 0))
            self.expect_ray(question, middle, slopes[0], -1)
            self.expect_ray(question, middle, slopes[0], 1)
            return
        self.assertEqual(len(slopes), len(points) - 1 + low_open + high_open)
        for t, least in points:
            self.assertEqual(self.least(question, t), least)
        for point, side, is_open in ((points[0], -1, low_open), (points[-1], 1, high_open)):
            if is_open:
                self.expect_ray(question, point, slopes.pop(0 if side < 0 else -1), side)
            else:
                for way in (Fraction(1, FAR), 1, FAR):
                    self.assertEqual(self.least(question, point[0] + side * way), "never")
        for one, other, slope in zip(points, points[1:], slopes):
            self.assertEqual(other[1] - one[1], slope * (other[0] - one[0]))
            for part in (Fraction(1, 2), Fraction(1, FAR)):
                t = one[0] + part * (other[0] - one[0])
                self.assertEqual(self.least(question, t), one[1] + slope * (t - one[0]))

    def expect_ray(self, question, point, slope, side):
        for way in (Fraction(1, 3), 1, FAR, FAR ** 12):
            self.assertEqual(self.least(question, point[0] + side * way), point[1] + slope * side * way)


class ManyTest(BendsCase):
    def test_of_all_kinds(self):
        seen = {}
        for question in moved_questions(71, 5):
            found = self.expect(question)
            n = question[0]
            key = n, found[0], len(found[1]) if found[0] == "bends" else 0
            seen[key] = seen.get(key, 0) + 1
            self.assertLess(max([abs(number) for number in numbers_in(found)], default=0), 10 ** 2000)
        for n in (1, 2, 3, 4):
            for key in ((n, "never", 0), (n, "endless", 0), (n, "bends", 1), (n, "bends", 2)):
                self.assertGreater(seen.get(key, 0), 0, key)
        for n in (3, 4):
            many = [key for key in seen if key[0] == n and key[2] > 3]
            self.assertTrue(many, "several bends")

    def test_the_number_that_stands_there_does_not_count(self):
        for n, givens, place, goal in moved_questions(72, 1):
            first = bends(n, givens, place, goal)
            for number in (0, FAR, -7):
                other = givens[:place] + [(givens[place][0], "=", number)] + givens[place + 1:]
                self.assertEqual(bends(n, other, place, goal), first)


class ByHandTest(BendsCase):
    def expect_told(self, question, told):
        self.assertEqual(self.expect(question), told)

    def test_a_least_t_and_no_greatest_one(self):
        self.expect_told((1, [([1], "=", 5)], 0, [1]), ("bends", [((0, 1), (0, 1))], [(1, 1)]))
        self.expect_told((1, [([3], "=", 5)], 0, [-2]), ("bends", [((0, 1), (0, 1))], [(-2, 3)]))
        self.expect_told((1, [([1], ">", 4), ([2], "=", 5)], 1, [1]), ("bends", [((8, 1), (4, 1))], [(1, 2)]))

    def test_a_greatest_t_and_no_least_one(self):
        self.expect_told((1, [([-1], "=", 5)], 0, [1]), ("bends", [((0, 1), (0, 1))], [(-1, 1)]))
        self.expect_told((1, [([-2], "=", 5), ([1], ">", 3)], 0, [1]), ("bends", [((-6, 1), (3, 1))], [(-1, 2)]))

    def test_a_least_and_a_greatest_one(self):
        self.expect_told((1, [([-3], ">", -7), ([1], "=", 0)], 1, [2]),
                         ("bends", [((0, 1), (0, 1)), ((7, 3), (14, 3))], [(2, 1)]))

    def test_one_t_alone(self):
        self.expect_told((1, [([0], "=", 9)], 0, [1]), ("bends", [((0, 1), (0, 1))], []))
        self.expect_told((1, [([2], "=", 3), ([4], "=", 1)], 1, [3]), ("bends", [((6, 1), (9, 2))], []))
        # Nothing is below nought: what is no more than nought is nought.
        row = own_unsure(2, 3)
        self.expect_told((2, [([-x for x in row], ">", 0), ([1, 1, 0], "=", 1)], 1, [1, 1, 1]),
                         ("bends", [((0, 1), (0, 1))], []))

    def test_nothing_that_bends(self):
        self.expect_told((2, [([1, -1, 0], "=", 5)], 0, [1, -1, 0]), ("bends", [], [(1, 1)]))
        self.expect_told((2, [([1, -1, 0], "=", 5)], 0, [-3, 3, 0]), ("bends", [], [(-3, 1)]))
        self.expect_told((2, [([2, -2, 0], "=", 5)], 0, [1, -1, 0]), ("bends", [], [(1, 2)]))
        self.expect_told((2, [([1, -1, 0], "=", 5)], 0, [0, 0, 0]), ("bends", [], [(0, 1)]))
        self.expect_told((2, [([1, -1, 0], "=", 5), ([0, 1, 0], ">", 4)], 0, [1, -1, 0]), ("bends", [], [(1, 1)]))

    def test_one_bend(self):
        self.expect_told((2, [([1, -1, 0], "=", 5)], 0, [1, 1, 0]),
                         ("bends", [((0, 1), (0, 1))], [(-1, 1), (1, 1)]))
        self.expect_told((2, [([0, 1, 0], "=", 3), ([1, 0, 0], "=", 5)], 1, [0, 0, 1]),
                         ("bends", [((0, 1), (3, 1)), ((3, 1), (3, 1))], [(0, 1), (1, 1)]))
        # At least as unsure as both names, at most as both added up.
        self.expect_told((2, [([1, 0, 0], "=", 5), ([0, 1, 0], "=", 3)], 0, [0, 0, -1]),
                         ("bends", [((0, 1), (-3, 1))], [(-1, 1)]))

    def test_two_ends_as_high_and_a_bend_between(self):
        bounds = [([1, 0, 0], ">", 1), ([-1, 0, 0], ">", -3), ([0, 1, 0], ">", 1), ([0, -1, 0], ">", -3)]
        self.expect_told((2, bounds + [([1, -1, 0], "=", 5)], 4, [1, 1, 0]),
                         ("bends", [((-2, 1), (4, 1)), ((0, 1), (2, 1)), ((2, 1), (4, 1))], [(-1, 1), (1, 1)]))

    def test_points_without_a_bend_are_left_out(self):
        points = [((t, 1), (0, 1)) for t in range(4)]
        one, two, three = (1, 1), (2, 1), (3, 1)
        for slopes, kept, told in (
            ([None, one, one, one, None], (0, 3), [one]),
            ([None, one, two, two, None], (0, 1, 3), [one, two]),
            ([None, one, one, two, two], (0, 2), [one, two]),
            ([one, one, one, one, one], (), [one]),
            ([one, two, two, two, three], (0, 3), [one, two, three]),
            ([one, two, two, three, three], (0, 2), [one, two, three]),
            ([one, one, two, two, None], (1, 3), [one, two]),
        ):
            self.assertEqual(only_bends(points, slopes), ("bends", [points[place] for place in kept], told))

    def test_never(self):
        for place in (0, 1):
            givens = [([1], "=", -1), ([1], "=", -1)]
            self.expect_told((1, givens, place, [1]), ("never",))
        self.expect_told((2, [([1, 0, 0], "=", 1), ([0, 0, 1], "=", 2), ([0, 0, -1], ">", -1)], 0, [-1, 0, 0]),
                         ("never",))

    def test_endless(self):
        self.expect_told((2, [([1, 0, 0], "=", 1)], 0, [0, -1, 0]), ("endless",))
        self.expect_told((2, [([1, -1, 0], "=", 1)], 0, [-1, 0, 0]), ("endless",))
        self.expect_told((1, [([0], "=", 1)], 0, [-1]), ("endless",))

    def test_least_at_of_fractions(self):
        question = (2, [([0, 1, 0], "=", 3), ([1, 0, 0], "=", 5)], 1, [0, 0, 1])
        self.assertEqual(least_at(*question, (7, 2)), ("least", (7, 2)))
        self.assertEqual(least_at(*question, (14, 4)), ("least", (7, 2)))
        self.assertEqual(least_at(*question, (1, 2)), ("least", (3, 1)))
        self.assertEqual(least_at(*question, (0, 5)), ("least", (0 + 3, 1)))
        self.assertEqual(least_at(*question, (-1, FAR)), ("never",))
        self.assertEqual(least_at(*question[:3], [0, 0, 0], (FAR, 3)), ("least", (0, 1)))
        self.assertEqual(least_at(2, [([1, 0, 0], "=", 5)], 0, [0, -1, 0], (1, 2)), ("endless",))


class SameEachTimeTest(BendsCase):
    def test_told_lists_changed_and_what_was_handed_in(self):
        for question in moved_questions(73, 1):
            kept = copy.deepcopy(question)
            first = bends(*question)
            self.assertEqual(question, kept)
            copied = copy.deepcopy(first)
            for told in lists_in(first):
                told.append(((9, 1), (9, 1)))
                told[0] = None
            self.assertEqual(bends(*question), copied)

    def test_behind_other_questions(self):
        asked = moved_questions(74, 1)
        first = [bends(*question) for question in asked]
        again = [bends(*question) for question in reversed(asked)]
        self.assertEqual(first, again[::-1])

    def test_least_at_leaves_what_is_handed_in(self):
        for question in moved_questions(75, 1):
            kept = copy.deepcopy(question)
            first = least_at(*question, (5, 3))
            self.assertEqual(question, kept)
            self.assertEqual(least_at(*question, (5, 3)), first)


if __name__ == "__main__":
    unittest.main()
