import copy
import random
import unittest

from asking import questions
from reckoning import groups, is_whole_list, names_of, own_rest, own_rules, own_shared, own_unsure
from refusing import expect_all_refusals
from telltight.follows import follows
from telltight.musts import brought, silent, tells


def own_plain_musts(n):
    """All plain musts in their order, each with its saying."""
    found = []
    for a in range(2 ** n):
        for k in range(n):
            if k not in names_of(a):
                found.append((("tells", a, 2 ** k), (own_rest(n, 2 ** k, a), "=", 0)))
    for rule in own_rules(n)[n:]:
        word, i, j, g = rule
        found.append((("silent", 2 ** i, 2 ** j, g), (own_shared(n, 2 ** i, 2 ** j, g), "=", 0)))
    return found


def own_brought(n, givens):
    return [must for must, saying in own_plain_musts(n) if follows(n, givens, saying)[0]]


def sure_of(group, facts):
    """All names that the group makes sure of by facts (a, b): that a makes sure of b."""
    found = set(names_of(group))
    grown = True
    while grown:
        grown = False
        for a, b in facts:
            if names_of(a) <= found and not names_of(b) <= found:
                found |= names_of(b)
                grown = True
    return found


def brought_by_tells(n, facts):
    """What tells alone bring, without a question: two names are silent where what is known makes sure of one.

    (Else one coin that all names have of which it does not make sure keeps the facts, and both tell of it.)
    """
    found = []
    for must, saying in own_plain_musts(n):
        if must[0] == "tells":
            if names_of(must[2]) <= sure_of(must[1], facts):
                found.append(must)
        elif (names_of(must[1]) | names_of(must[2])) & sure_of(must[3], facts):
            found.append(must)
    return found


class SayingsTest(unittest.TestCase):
    def expect_saying(self, n, found, row):
        self.assertEqual(found, (row, "=", 0))
        self.assertIs(type(found), tuple)
        self.assertTrue(is_whole_list(found[0], 2 ** n - 1))
        self.assertTrue(type(found[2]) is int)

    def test_tells_of_all_groups(self):
        for n in (1, 2, 3, 4):
            for a in [0] + groups(n):
                for b in groups(n):
                    self.expect_saying(n, tells(n, a, b), own_rest(n, b, a))

    def test_silent_of_all_groups(self):
        for n in (1, 2, 3, 4):
            for a in groups(n):
                for b in groups(n):
                    for c in [0] + groups(n):
                        self.expect_saying(n, silent(n, a, b, c), own_shared(n, a, b, c))

    def test_by_hand(self):
        self.assertEqual(tells(2, 1, 2), ([-1, 0, 1], "=", 0))
        self.assertEqual(tells(2, 0, 3), ([0, 0, 1], "=", 0))
        self.assertEqual(tells(2, 3, 1), ([0, 0, 0], "=", 0))
        self.assertEqual(silent(2, 1, 2, 0), ([1, 1, -1], "=", 0))
        self.assertEqual(silent(2, 1, 1, 2), ([0, -1, 1], "=", 0))

    def test_refusals(self):
        expect_all_refusals(self, tells, (True, False))
        expect_all_refusals(self, silent, (False, False, True))

    def test_nobody_where_it_may_be(self):
        self.assertEqual(tells(1, 0, 1), ([1], "=", 0))
        self.assertEqual(silent(1, 1, 1, 0), ([1], "=", 0))

    def test_told_rows_may_be_changed(self):
        for function, arguments in ((tells, (3, 1, 2)), (silent, (3, 1, 2, 4))):
            first = function(*arguments)
            kept = copy.deepcopy(first)
            first[0][0] = 99
            first[0].append(1)
            self.assertEqual(function(*arguments), kept)


class BroughtTest(unittest.TestCase):
    def expect(self, n, givens):
        kept = copy.deepcopy(givens)
        found = brought(n, givens)
        self.assertEqual(found, own_brought(n, givens), (n, givens))
        self.assertIs(type(found), list)
        self.assertTrue(all(type(must) is tuple for must in found))
        self.assertEqual(givens, kept)
        return found

    def test_of_givens_of_any_kind(self):
        seen = {}
        for n, givens, row in questions(51, 6, names=(1, 2, 3)):
            many = len(self.expect(n, givens))
            part = "none" if many == 0 else "all" if many == len(own_plain_musts(n)) else "some"
            seen[n, part] = seen.get((n, part), 0) + 1
        for n in (1, 2, 3):
            for part in ("none", "all") + (("some",) if n > 1 else ()):
                self.assertGreater(seen.get((n, part), 0), 2, (n, part))

    def test_of_musts(self):
        chance = random.Random(52)
        for n in (1, 2, 3):
            for many in range(1, 6):
                for _ in range(8):
                    givens = []
                    for _ in range(many):
                        a, b, c = chance.choice(groups(n)), chance.choice(groups(n)), chance.randrange(2 ** n)
                        givens.append(chance.choice((tells(n, c, b), silent(n, a, b, c))))
                    self.expect(n, givens)

    def test_of_four_names_by_tells(self):
        chance = random.Random(53)
        for many in range(10):
            for times in range(4):
                facts = [(chance.randrange(16), chance.choice(groups(4))) for _ in range(many)]
                if times % 2:
                    facts = [(a or 15, b) for a, b in facts]
                givens = [tells(4, a, b) for a, b in facts]
                self.assertEqual(brought(4, givens), brought_by_tells(4, facts), facts)
                if times == 1:
                    self.expect(4, givens)

    def test_of_fewer_names_by_tells(self):
        for n in (1, 2, 3):
            for a in [0] + groups(n):
                for b in groups(n):
                    facts = [(a, b), (b, 1)]
                    self.assertEqual(brought(n, [tells(n, x, y) for x, y in facts]), brought_by_tells(n, facts))

    def test_with_nothing_given(self):
        for n in (1, 2, 3, 4):
            self.assertEqual(brought(n, []), [])

    def test_the_order(self):
        everything = [(own_unsure(3, 7), "=", 0)]
        found = brought(3, everything)
        self.assertEqual(found[:9], [("tells", 0, 1), ("tells", 0, 2), ("tells", 0, 4), ("tells", 1, 2),
                                     ("tells", 1, 4), ("tells", 2, 1), ("tells", 2, 4), ("tells", 3, 4),
                                     ("tells", 4, 1)])
        self.assertEqual(found[9:], [("tells", 4, 2), ("tells", 5, 2), ("tells", 6, 1),
                                     ("silent", 1, 2, 0), ("silent", 1, 2, 4), ("silent", 1, 4, 0),
                                     ("silent", 1, 4, 2), ("silent", 2, 4, 0), ("silent", 2, 4, 1)])
        self.assertEqual(brought(1, [([1], "=", 0)]), [("tells", 0, 1)])
        nothing_keeps = [([1, 0, 0], "=", -1)]
        self.assertEqual(brought(2, nothing_keeps), [("tells", 0, 1), ("tells", 0, 2), ("tells", 1, 2),
                                                     ("tells", 2, 1), ("silent", 1, 2, 0)])
        self.assertEqual(len(brought(4, [(own_unsure(4, 15), "=", 0)])), 32 + 24)

    def test_the_same_again(self):
        givens = [tells(3, 1, 2), silent(3, 2, 4, 0)]
        first = brought(3, givens)
        kept = list(first)
        first.append(("tells", 9, 9))
        first[0] = None
        brought(4, [tells(4, 1, 2)])
        self.assertEqual(brought(3, givens), kept)


if __name__ == "__main__":
    unittest.main()
