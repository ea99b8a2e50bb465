import random
import unittest
from collections import Counter
from functools import lru_cache
from itertools import combinations

from owning import expect_own
from reckoning import is_whole, names_of, own_rules, own_shared, own_sort_table, own_sorts, own_value
from telltight.follows import follows
from telltight.silences import brought_pairs, sort_against, steps_hold


def every_pair(n):
    return [rule[1:] for rule in own_rules(n) if rule[0] == "pair"]


def own_pair(one, other, known):
    return (min(one, other), max(one, other), sum(2 ** k for k in known))


@lru_cache(None)
def own_comes(n, one, other):
    """All pairs that come of both by point 28, the one as the pair of i and k."""
    found = set()
    for i, k in (one[:2], one[1::-1]):
        g = names_of(one[2])
        for j in range(n):
            if j not in g | {i, k} and other == own_pair(i, j, g | {k}):
                found |= {own_pair(i, j, g), own_pair(i, k, g | {j})}
    return found


def own_found(n, pairs):
    return list(closed(n, frozenset(pairs)))


@lru_cache(None)
def closed(n, pairs):
    found = set(pairs)
    while True:
        more = {pair for one in found for other in found for pair in own_comes(n, one, other)}
        if more <= found:
            return [pair for pair in every_pair(n) if pair in found]
        found |= more


def own_steps_hold(n, pairs, found, steps):
    if found != own_found(n, pairs):
        return False
    for place, (one, other, more) in enumerate(steps):
        there = pairs + [step[2] for step in steps[:place]]
        if one not in there or other not in there or more in there:
            return False
        if more not in own_comes(n, one, other) | own_comes(n, other, one):
            return False
    brought = [step[2] for step in steps]
    return all(brought.count(pair) == 1 for pair in found if pair not in pairs)


def own_steps(n, pairs, chance):
    """Steps to all that is found, in an order of chance, one and other by chance in either order."""
    there, steps = list(dict.fromkeys(pairs)), []
    while True:
        ways = [(one, other, more) for one in there for other in there for more in own_comes(n, one, other)
                if more not in there]
        if not ways:
            return steps
        one, other, more = chance.choice(sorted(ways))
        steps.append(chance.choice(((one, other, more), (other, one, more))))
        there.append(more)


def some_pairs(n, many, chance):
    """Pairs in any order, some twice; many of them such that bring others."""
    every = every_pair(n)
    found = [chance.choice(every) for _ in range(many)] if every else []
    for place in range(len(found) - 1):
        i, k, g = found[place]
        js = [j for j in range(n) if j not in names_of(g) | {i, k}]
        if js and chance.randrange(2):
            found[place + 1] = own_pair(chance.choice((i, k)), chance.choice(js), names_of(g) | {k})
            if found[place + 1] not in every:
                found[place + 1] = chance.choice(every)
    chance.shuffle(found)
    return found


def lists_of_pairs(seed, times):
    chance = random.Random(seed)
    found = []
    for n in (1, 2, 3, 4):
        found += [(n, []), (n, every_pair(n)), (n, every_pair(n)[::-1])]
        for many in range(1, 25):
            for _ in range(times if n > 2 else 1):
                found.append((n, some_pairs(n, many, chance)))
                few = some_pairs(n, chance.randint(2, 6), chance)
                found.append((n, few))
                found.append((n, [chance.choice(few) for _ in range(many)] if few else []))
    return found


class BroughtTest(unittest.TestCase):
    def expect(self, n, pairs):
        told = expect_own(self, brought_pairs, (n, pairs))
        self.assertTrue(type(told) is tuple and len(told) == 2)
        found, steps = told
        self.assertTrue(type(found) is list and type(steps) is list)
        for pair in found + [pair for step in steps for pair in step]:
            self.assertTrue(type(pair) is tuple and len(pair) == 3 and all(is_whole(number) for number in pair))
        self.assertTrue(all(type(step) is tuple and len(step) == 3 for step in steps))
        self.assertEqual(found, own_found(n, pairs), (n, pairs))
        self.assertTrue(own_steps_hold(n, pairs, found, steps), (n, pairs, steps))
        self.assertIs(steps_hold(n, pairs, found, steps), True)
        return told

    def test_of_chance(self):
        seen = Counter()
        for n, pairs in lists_of_pairs(401, 4):
            found, steps = self.expect(n, pairs)
            seen[n, min(len(steps), 4)] += 1
        for n, few in ((1, 0), (2, 0), (3, 0), (3, 1), (3, 2), (4, 0), (4, 1), (4, 2), (4, 3), (4, 4)):
            self.assertGreater(seen[n, few], 3, seen)

    def test_each_two_pairs(self):
        for n in (2, 3, 4):
            for one, other in combinations(every_pair(n), 2):
                self.expect(n, [one, other])
                self.expect(n, [other, one, other])

    def test_each_list_of_three_names(self):
        for many in range(7):
            for pairs in combinations(every_pair(3), many):
                self.expect(3, list(pairs))

    def test_they_follow(self):
        chance = random.Random(402)
        checked = 0
        for n in (3, 4):
            for _ in range(60):
                pairs = some_pairs(n, chance.randint(2, 9), chance)
                found, steps = brought_pairs(n, pairs)
                musts = [(own_shared(n, 2 ** i, 2 ** j, g), "=", 0) for i, j, g in pairs]
                for one, other, (i, j, g) in steps[:6]:
                    checked += 1
                    self.assertTrue(follows(n, musts, (own_shared(n, 2 ** i, 2 ** j, g), "=", 0))[0], (pairs, i, j, g))
        self.assertGreater(checked, 100)

    def test_by_hand(self):
        self.assertEqual(brought_pairs(1, []), ([], []))
        self.assertEqual(brought_pairs(2, [(0, 1, 0), (0, 1, 0)]), ([(0, 1, 0)], []))
        found, steps = brought_pairs(3, [(0, 1, 4), (0, 2, 0)])
        self.assertEqual(found, [(0, 1, 0), (0, 1, 4), (0, 2, 0), (0, 2, 2)])
        self.assertEqual(sorted(step[2] for step in steps), [(0, 1, 0), (0, 2, 2)])
        # Two names that are silent of a third each are not so of one another.
        self.assertEqual(brought_pairs(3, [(0, 2, 0), (1, 2, 0)]), ([(0, 2, 0), (1, 2, 0)], []))


class StepsHoldTest(unittest.TestCase):
    def expect(self, n, pairs, found, steps):
        wanted = own_steps_hold(n, pairs, found, steps)
        self.assertIs(steps_hold(n, pairs, found, steps), wanted, (n, pairs, found, steps))
        return wanted

    def other_pairs(self, n, chance):
        far = 10 ** 40 - 1
        odd = [(1, 0, 0), (0, 0, 0), (0, 1, 1), (0, 1, 2 ** n), (0, 1, -1), (-1, 0, 0), (0, n, 0), (far, far, far),
               (-far, 0, far), (0, 1, 3)]
        return chance.sample(odd, 3) + chance.sample(every_pair(n), min(3, len(every_pair(n))))

    def changed_steps(self, n, pairs, steps, chance):
        yield steps[::-1]
        yield steps + steps
        yield []
        for place, step in enumerate(steps):
            yield steps[:place] + steps[place + 1:]
            yield steps[:place] + [step] + steps[place:]
            yield steps[:place + 1]
            yield steps[place:]
            yield steps[place:] + steps[:place]
            yield chance.sample(steps, len(steps))
            one, other, more = step
            yield steps[:place] + [(other, one, more)] + steps[place + 1:]
            yield steps[:place] + [(one, one, more)] + steps[place + 1:]
            yield steps[:place] + [(more, other, one)] + steps[place + 1:]
            for pair in self.other_pairs(n, chance):
                for changed in ((pair, other, more), (one, pair, more), (one, other, pair)):
                    yield steps[:place] + [changed] + steps[place + 1:]
        there = pairs + [step[2] for step in steps]
        if there:
            # A right step that brings what is there already.
            for one, other in [chance.sample(there, 2) for _ in range(4) if len(there) > 1]:
                for more in sorted(own_comes(n, one, other)):
                    yield steps + [(one, other, more)]
                    yield [(one, other, more)] + steps
            yield steps + [(there[0], there[-1], pair) for pair in self.other_pairs(n, chance)[:1]]
            yield steps + [(there[0], there[-1], there[0])]

    def changed_found(self, n, found, chance):
        yield found[::-1]
        yield found + found[:1]
        yield []
        for place in range(len(found)):
            yield found[:place] + found[place + 1:]
            yield found[:place] + [found[place]] + found[place:]
        for pair in self.other_pairs(n, chance):
            yield found + [pair]
            yield sorted(found + [pair])
            yield [pair] + found[1:]

    def test_told_ones_and_changed_ones(self):
        chance = random.Random(411)
        seen = Counter()
        for n, pairs in lists_of_pairs(412, 1):
            found, steps = brought_pairs(n, pairs)
            self.assertTrue(self.expect(n, pairs, found, steps))
            for other in self.changed_steps(n, pairs, steps, chance):
                seen["steps", self.expect(n, pairs, found, other)] += 1
            for other in self.changed_found(n, found, chance):
                seen["found", self.expect(n, pairs, other, steps)] += 1
        self.assertGreater(min(seen["steps", True], seen["steps", False], seen["found", False]), 500, seen)

    def test_others_own_steps(self):
        chance = random.Random(413)
        for n, pairs in lists_of_pairs(414, 1):
            found = own_found(n, pairs)
            for _ in range(2):
                self.assertTrue(self.expect(n, pairs, found, own_steps(n, pairs, chance)))

    def test_steps_of_other_pairs(self):
        chance = random.Random(415)
        lists = [(n, pairs) for n, pairs in lists_of_pairs(416, 1) if n > 2]
        for n, pairs in lists:
            found, steps = brought_pairs(n, pairs)
            fewer = list(pairs)
            if fewer:
                fewer.remove(chance.choice(fewer))
            for other in (fewer, pairs + [chance.choice(every_pair(n))], pairs + pairs[:1]):
                self.expect(n, other, found, steps)

    def test_by_hand(self):
        pairs, found = [(0, 1, 4), (0, 2, 0)], [(0, 1, 0), (0, 1, 4), (0, 2, 0), (0, 2, 2)]
        one, other = ((0, 2, 0), (0, 1, 4), (0, 1, 0)), ((0, 1, 4), (0, 2, 0), (0, 2, 2))
        third = ((0, 1, 0), (0, 2, 2), (0, 2, 0))
        for steps, wanted in (([one, other], True), ([other, one], True), ([one], False), ([], False),
                              ([one, other, one], False), ([one, other, third], False), ([third, one, other], False)):
            self.assertIs(steps_hold(3, pairs, found, steps), wanted, steps)
        self.assertIs(steps_hold(3, pairs, found[:3], [one]), False)
        self.assertIs(steps_hold(3, [], [], []), True)
        self.assertIs(steps_hold(1, [], [], []), True)
        self.assertIs(steps_hold(3, [], [(0, 1, 0)], []), False)
        self.assertIs(steps_hold(3, pairs[:1], pairs[:1], []), True)

    def test_what_is_handed_in_stays(self):
        for n, pairs in lists_of_pairs(417, 1)[::5]:
            found, steps = brought_pairs(n, pairs)
            expect_own(self, steps_hold, (n, pairs, found, steps))
            expect_own(self, steps_hold, (n, pairs, found, steps[1:]))


class AgainstTest(unittest.TestCase):
    def own_against(self, n, pairs, pair):
        found = own_found(n, pairs)
        if pair in found:
            return None
        for sort in own_sorts(n):
            table = own_sort_table(n, sort)
            shares = {one: own_value(own_shared(n, 2 ** one[0], 2 ** one[1], one[2]), table) for one in found + [pair]}
            if shares[pair] != 0 and all(shares[one] == 0 for one in found):
                return sort
        return "none"

    def expect(self, n, pairs, pair):
        told = expect_own(self, sort_against, (n, pairs, pair))
        self.assertEqual(told, self.own_against(n, pairs, pair), (n, pairs, pair))
        return told

    def test_all_lists_of_pairs(self):
        seen = Counter()
        for n in (2, 3):
            for many in range(len(every_pair(n)) + 1):
                for pairs in combinations(every_pair(n), many):
                    for pair in every_pair(n):
                        seen[n, self.expect(n, list(pairs), pair)] += 1
        self.assertEqual({sort for n, sort in seen if n == 2}, {None, ("coin", 3)})
        self.assertEqual({sort for n, sort in seen if n == 3},
                         {None, ("coin", 3), ("coin", 5), ("coin", 6), ("coin", 7), ("odd",)})

    def test_in_any_order_and_twice(self):
        for n, pairs in lists_of_pairs(421, 2):
            if n < 4:
                for pair in every_pair(n):
                    self.expect(n, pairs, pair)

    def test_by_hand(self):
        self.assertEqual(sort_against(2, [], (0, 1, 0)), ("coin", 3))
        self.assertIsNone(sort_against(2, [(0, 1, 0)], (0, 1, 0)))
        self.assertEqual(sort_against(3, [(0, 1, 0)], (0, 1, 4)), ("odd",))
        self.assertEqual(sort_against(3, [(0, 1, 4)], (0, 1, 0)), ("coin", 7))
        self.assertIsNone(sort_against(3, [(0, 1, 4), (0, 2, 0)], (0, 2, 2)))


if __name__ == "__main__":
    unittest.main()
