import copy
import random
import unittest
from fractions import Fraction

from asking import FAR, questions
from reckoning import groups, is_fraction, own_holds, own_unsure
from telltight.questions import answer
from telltight.ranges import outlying, range_of, ranges, settled


def turned(row):
    return [-number for number in row]


def own_end(n, givens, row):
    found = answer(n, givens, row)
    assert own_holds(n, givens, row, found)
    return Fraction(*found[1]) if found[0] == "least" else found[0]


def own_range(n, givens, row):
    """None, or both ends as fractions, None where there is none."""
    low, high = own_end(n, givens, row), own_end(n, givens, turned(row))
    assert (low == "never") == (high == "never")
    if low == "never":
        return None
    return (None if low == "endless" else low, None if high == "endless" else -high)


class RangesCase(unittest.TestCase):
    def expect_ends(self, found, wanted):
        if wanted is None:
            self.assertIsNone(found)
            return
        self.assertTrue(type(found) is tuple and len(found) == 2)
        for end, number in zip(found, wanted):
            if number is None:
                self.assertIsNone(end)
            else:
                self.assertTrue(is_fraction(end), end)
                self.assertEqual(Fraction(*end), number)

    def expect(self, n, givens, row):
        kept = copy.deepcopy((givens, row))
        found = range_of(n, givens, row)
        self.assertEqual((givens, row), kept)
        self.expect_ends(found, own_range(n, givens, row))
        return found


class RangeTest(RangesCase):
    def test_of_all_kinds(self):
        seen = {}
        for n, givens, row in questions(91, 10):
            found = self.expect(n, givens, row)
            key = n, "never" if found is None else (found[0] is None, found[1] is None)
            seen[key] = seen.get(key, 0) + 1
        for n in (1, 2, 3, 4):
            for ends in ("never", (True, False), (False, True), (False, False)):
                self.assertGreater(seen.get((n, ends), 0), 2, (n, ends))
            if n > 1:
                self.assertGreater(seen.get((n, (True, True)), 0), 2)

    def test_by_hand(self):
        self.assertEqual(range_of(1, [], [1]), ((0, 1), None))
        self.assertEqual(range_of(1, [], [-1]), (None, (0, 1)))
        self.assertEqual(range_of(1, [], [0]), ((0, 1), (0, 1)))
        self.assertEqual(range_of(1, [([6], "=", 4)], [1]), ((2, 3), (2, 3)))
        self.assertEqual(range_of(1, [([1], "=", -4)], [1]), None)
        self.assertEqual(range_of(1, [([1], "=", -4)], [0]), None)
        self.assertEqual(range_of(2, [], [1, -1, 0]), (None, None))
        given = [([1, 0, 0], "=", 3), ([0, 1, 0], "=", 2)]
        self.assertEqual(range_of(2, given, [0, 0, 1]), ((3, 1), (5, 1)))
        self.assertEqual(range_of(2, given, [0, 0, -2]), ((-10, 1), (-6, 1)))
        self.assertEqual(range_of(2, given, [1, 1, -1]), ((0, 1), (2, 1)))
        self.assertEqual(range_of(1, [([2], ">", -1), ([-2], ">", -FAR)], [1]), ((0, 1), (FAR, 2)))


class AllGroupsTest(RangesCase):
    def test_ranges_and_settled(self):
        seen = {}
        for n, givens, row in questions(92, 3):
            kept = copy.deepcopy(givens)
            found, sure = ranges(n, givens), settled(n, givens)
            self.assertEqual(givens, kept)
            wanted = [own_range(n, givens, own_unsure(n, g)) for g in groups(n)]
            if wanted[0] is None:
                self.assertIsNone(found)
                self.assertIsNone(sure)
                many = None
            else:
                self.assertTrue(type(found) is list and len(found) == 2 ** n - 1)
                for ends, both in zip(found, wanted):
                    self.expect_ends(ends, both)
                self.assertEqual(sure, [g for g in groups(n) if wanted[g - 1][0] == wanted[g - 1][1]])
                self.assertIs(type(sure), list)
                many = min(1, len(sure))
            seen[n, many] = seen.get((n, many), 0) + 1
        for n in (1, 2, 3, 4):
            for many in (None, 0, 1):
                self.assertGreater(seen.get((n, many), 0), 0, (n, many))

    def test_by_hand(self):
        self.assertEqual(ranges(2, []), [((0, 1), None)] * 3)
        self.assertEqual(settled(2, []), [])
        given = [([1, 0, 0], "=", 3), ([0, 2, 0], "=", 1)]
        self.assertEqual(ranges(2, given), [((3, 1), (3, 1)), ((1, 2), (1, 2)), ((3, 1), (7, 2))])
        self.assertEqual(settled(2, given), [1, 2])
        self.assertEqual(settled(2, given + [([1, 1, -1], "=", 0)]), [1, 2, 3])
        self.assertEqual(settled(3, [(own_unsure(3, 7), "=", 0)]), [1, 2, 3, 4, 5, 6, 7])
        self.assertIsNone(ranges(2, given + [([0, 0, 1], "=", 1)]))
        self.assertIsNone(settled(2, given + [([0, 0, 1], "=", 1)]))

    def test_the_same_again(self):
        given = [([1, 0, 0], "=", 3), ([0, 2, 0], "=", 1)]
        for function in (ranges, settled):
            first = function(2, given)
            kept = list(first)
            first.append(5)
            first[0] = None
            self.assertEqual(function(2, given), kept)


class OutlyingTest(RangesCase):
    def expect_said(self, n, givens, row, number):
        said = outlying(n, givens, row, number)
        ends = own_range(n, givens, row)
        if ends is None:
            wanted = None
        elif ends[0] is not None and Fraction(*number) < ends[0]:
            wanted = "less"
        elif ends[1] is not None and Fraction(*number) > ends[1]:
            wanted = "more"
        else:
            wanted = "within"
        self.assertEqual(said, wanted, (n, givens, row, number))
        return said

    def test_below_at_and_above_each_end(self):
        chance = random.Random(93)
        seen = {}
        for n, givens, row in questions(94, 3):
            ends = range_of(n, givens, row) or (None, None)
            numbers = [(0, 1), (FAR, 1), (-FAR, 1), (chance.randint(-9, 9), chance.randint(1, 9))]
            for top, bottom in [end for end in ends if end is not None]:
                for times in (1, 6):
                    numbers += [(top * times, bottom * times), (top * times - 1, bottom * times),
                                (top * times + 1, bottom * times)]
                numbers += [(top * FAR - 1, bottom * FAR), (top * FAR + 1, bottom * FAR)]
            for number in numbers:
                said = self.expect_said(n, givens, row, number)
                seen[said] = seen.get(said, 0) + 1
        for said in (None, "less", "more", "within"):
            self.assertGreater(seen.get(said, 0), 50, said)

    def test_by_hand(self):
        given = [([6], ">", 4), ([-1], ">", -3)]
        for number, said in (((2, 3), "within"), ((4, 6), "within"), ((3, 6), "less"), ((5, 6), "within"),
                             ((3, 1), "within"), ((9, 3), "within"), ((10, 3), "more"), ((-1, 1), "less"),
                             ((6, 2), "within"), ((FAR, 1), "more"), ((0, 9), "less")):
            self.assertEqual(self.expect_said(1, given, [1], number), said)
        for number in ((FAR, 1), (-FAR, 1), (0, 1)):
            self.assertEqual(outlying(2, [], [1, -1, 0], number), "within")
            self.assertIsNone(outlying(1, [([1], "=", -1)], [1], number))
        self.assertEqual(outlying(1, [], [1], (-1, FAR)), "less")
        self.assertEqual(outlying(1, [], [1], (0, 7)), "within")
        self.assertEqual(outlying(1, [], [-1], (1, FAR)), "more")

    def test_what_was_handed_in_stays(self):
        given = [([6], ">", 4), ([-1], ">", -3)]
        kept = copy.deepcopy(given)
        row = [1]
        self.assertEqual([outlying(1, given, row, (1, 1)) for _ in range(2)], ["within"] * 2)
        self.assertEqual((given, row), (kept, [1]))


if __name__ == "__main__":
    unittest.main()
