import random
import unittest
from collections import Counter
from itertools import product

from asking import FAR, cone_table, questions
from heaps import is_heap, own_coin_table
from owning import expect_own
from reckoning import (ODD, groups, is_whole_list, names_of, own_keeps_rules, own_rest, own_rule_row, own_rules,
                       own_shared, own_sort_table, own_sorts, own_value)
from refusing import expect_kind
from telltight.coins import coin_table
from telltight.follows import follows
from telltight.sorts import by_sorts, heap_of, sort_counts, sort_heap, sort_table, sorts


def own_sum(n, counts):
    tables = [own_sort_table(n, sort) for sort in own_sorts(n)]
    return [own_value(counts, [table[place] for table in tables]) for place in range(2 ** n - 1)]


def own_first_broken(n, table):
    return next((rule for rule in own_rules(n) if own_value(own_rule_row(n, rule), table) < 0), None)


def counts_of_chance(n, most, chance):
    counts = [chance.choice((0, 1, chance.randint(0, most))) for _ in own_sorts(n)]
    if n == 3:
        # The coin of all three stands last but one, odd last.
        counts[chance.choice((-1, -2))] = 0
    return counts


def own_heap(n, counts):
    """The heap of so many of each sort, coin by coin."""
    many, views = 0, [[] for _ in range(n)]
    for sort, count in zip(own_sorts(n), counts):
        for _ in range(count):
            if sort == ODD:
                views[0].append([many])
                views[1].append([many + 1])
                views[2].append([many, many + 1])
                many += 2
            else:
                for name in names_of(sort[1]):
                    views[name].append([many])
                many += 1
    return (many, views)


class SortsTest(unittest.TestCase):
    def test_in_order(self):
        self.assertEqual(sorts(1), [("coin", 1)])
        self.assertEqual(sorts(2), [("coin", 1), ("coin", 2), ("coin", 3)])
        self.assertEqual(sorts(3), [("coin", 1), ("coin", 2), ("coin", 3), ("coin", 4), ("coin", 5), ("coin", 6),
                                    ("coin", 7), ("odd",)])
        for n in (1, 2, 3):
            self.assertTrue(all(type(sort) is tuple for sort in expect_own(self, sorts, (n,))))

    def test_heaps(self):
        for n in (1, 2, 3):
            for sort in own_sorts(n):
                found = expect_own(self, sort_heap, (n, sort))
                self.assertTrue(is_heap(found, n), found)
                if sort == ODD:
                    self.assertEqual(found, (2, [[[0]], [[1]], [[0, 1]]]))
                else:
                    self.assertEqual(found, (1, [[[0]] if k in names_of(sort[1]) else [] for k in range(n)]))

    def test_tables(self):
        for n in (1, 2, 3):
            for sort in own_sorts(n):
                found = expect_own(self, sort_table, (n, sort))
                self.assertTrue(is_whole_list(found, 2 ** n - 1))
                self.assertEqual(found, own_sort_table(n, sort), (n, sort))
                self.assertEqual(found, own_coin_table(sort_heap(n, sort)))
        self.assertEqual(sort_table(3, ODD), [1, 1, 2, 1, 2, 2, 2])


class CountsTest(unittest.TestCase):
    def test_sums_of_sorts(self):
        chance = random.Random(191)
        seen = Counter()
        for n in (1, 2, 3):
            for _ in range(150):
                counts = counts_of_chance(n, chance.choice((1, 3, 10 ** 12)), chance)
                table = own_sum(n, counts)
                found = expect_own(self, sort_counts, (n, table))
                self.assertEqual(found, counts, (n, table))
                self.assertTrue(is_whole_list(found, len(own_sorts(n))))
                seen[n, counts[-1] > 0, counts[-2:-1] > [0]] += 1
        self.assertGreater(min(seen[3, True, False], seen[3, False, True], seen[3, False, False]), 20, seen)

    def test_each_small_sum_of_three_names(self):
        for counts in product((0, 1), repeat=8):
            if 0 in counts[6:]:
                self.assertEqual(sort_counts(3, own_sum(3, counts)), list(counts))
        # Both of them once are one coin for each two names, and one for each name less.
        with_both = own_sum(3, [0, 0, 0, 0, 0, 0, 1, 1])
        self.assertEqual(sort_counts(3, with_both), [0, 0, 1, 0, 1, 1, 0, 0])

    def test_a_number_one_more_or_less(self):
        chance = random.Random(192)
        rules = Counter()
        for n in (1, 2, 3):
            for _ in range(60):
                table = own_sum(n, counts_of_chance(n, chance.choice((1, 2, 10 ** 12)), chance))
                for place in range(2 ** n - 1):
                    for by in (1, -1):
                        other = list(table)
                        other[place] += by
                        rules[self.expect_counts_or_refusal(n, other)] += 1
        self.assertEqual({rule for rule in rules if rule and len(rule) == 2}, {("last", k) for k in range(3)})
        self.assertEqual(len([rule for rule in rules if rule and len(rule) == 4]), 6)
        self.assertGreater(rules[None], 100)

    def expect_counts_or_refusal(self, n, table):
        broken = own_first_broken(n, table)
        if broken:
            for function in (sort_counts, heap_of):
                found = expect_kind(self, "NoTable", function, (n, list(table)))
                self.assertEqual(found.rule, broken, table)
                self.assertIs(type(found.rule), tuple)
            return broken
        counts = sort_counts(n, table)
        self.assertEqual(own_sum(n, counts), table)
        self.assertGreaterEqual(min(counts), 0)
        self.assertTrue(n < 3 or 0 in counts[-2:])
        return None

    def test_any_tables(self):
        chance = random.Random(193)
        for n in (1, 2, 3):
            for most in (1, 3, FAR):
                for _ in range(40):
                    self.expect_counts_or_refusal(n, [chance.randint(-most, most) for _ in groups(n)])
                    self.expect_counts_or_refusal(n, [chance.randint(0, most) for _ in groups(n)])
                    self.expect_counts_or_refusal(n, cone_table(n, chance, most // 8 + 1))

    def test_a_refused_table_stays(self):
        table = [1, 1, 3]
        expect_kind(self, "NoTable", sort_counts, (2, table))
        self.assertEqual(table, [1, 1, 3])

    def test_by_hand(self):
        self.assertEqual(sort_counts(1, [0]), [0])
        self.assertEqual(sort_counts(1, [FAR]), [FAR])
        self.assertEqual(sort_counts(2, [3, 2, 4]), [2, 1, 1])
        self.assertEqual(sort_counts(3, [1, 1, 2, 1, 2, 2, 2]), [0, 0, 0, 0, 0, 0, 0, 1])
        self.assertEqual(sort_counts(3, [2, 2, 3, 2, 3, 3, 3]), [0, 0, 1, 0, 1, 1, 0, 0])
        self.assertEqual(expect_kind(self, "NoTable", sort_counts, (1, [-1])).rule, ("last", 0))
        self.assertEqual(expect_kind(self, "NoTable", sort_counts, (2, [1, 1, 3])).rule, ("pair", 0, 1, 0))
        self.assertEqual(expect_kind(self, "NoTable", sort_counts, (2, [1, 2, 1])).rule, ("last", 0))


class HeapTest(unittest.TestCase):
    def expect(self, n, counts):
        table = own_sum(n, counts)
        found = expect_own(self, heap_of, (n, table))
        self.assertEqual(found, own_heap(n, counts), (n, table))
        self.assertTrue(is_heap(found, n))
        self.assertEqual(coin_table(found), table)
        self.assertEqual(own_coin_table(found), table)

    def test_sums_of_sorts(self):
        chance = random.Random(201)
        for n in (1, 2, 3):
            for _ in range(40):
                self.expect(n, counts_of_chance(n, 5, chance))
            self.expect(n, [0] * len(own_sorts(n)))

    def test_forty_coins_and_forty_one(self):
        for n in (1, 2, 3):
            for place, sort in enumerate(own_sorts(n)):
                for many in (40, 41, 42, 10 ** 12):
                    counts = [0] * len(own_sorts(n))
                    counts[place] = many // (2 if sort == ODD else 1)
                    if sort == ODD and many % 2:
                        counts[0] = 1
                    if many == 40:
                        self.expect(n, counts)
                    else:
                        expect_kind(self, "TooMany", heap_of, (n, own_sum(n, counts)))
        self.expect(3, [5, 5, 5, 5, 5, 5, 0, 5])
        expect_kind(self, "TooMany", heap_of, (3, own_sum(3, [6, 5, 5, 5, 5, 5, 0, 5])))

    def test_no_table_comes_first(self):
        for table, rule in (([50, 50, 101], ("pair", 0, 1, 0)), ([FAR, 50, 50], ("last", 1)),
                            ([50, 41, 41], ("last", 1)), ([50, 40, 41], ("last", 1)), ([1, 1, 41], ("pair", 0, 1, 0))):
            self.assertEqual(expect_kind(self, "NoTable", heap_of, (2, table)).rule, rule)
        expect_kind(self, "TooMany", heap_of, (2, [41, 41, 41]))
        expect_kind(self, "TooMany", heap_of, (2, [40, 1, 41]))
        expect_kind(self, "TooMany", heap_of, (2, [FAR, FAR, FAR]))

    def test_by_hand(self):
        self.assertEqual(heap_of(2, [3, 2, 4]), (4, [[[0], [1], [3]], [[2], [3]]]))
        self.assertEqual(heap_of(3, [1, 1, 2, 2, 3, 3, 3]), (3, [[[1]], [[2]], [[0], [1, 2]]]))
        self.assertEqual(heap_of(1, [0]), (0, [[]]))


class BySortsTest(unittest.TestCase):
    def own_fact_row(self, n, fact):
        if fact[0] == "tells":
            return own_rest(n, fact[2], fact[1])
        return own_shared(n, fact[1], fact[2], fact[3])

    def own_by_sorts(self, n, facts, row):
        for sort in own_sorts(n):
            table = own_sort_table(n, sort)
            if all(own_value(self.own_fact_row(n, fact), table) == 0 for fact in facts) and own_value(row, table) < 0:
                return ("broken", sort)
        return ("so",)

    def random_facts(self, n, many, chance):
        facts = []
        for _ in range(many):
            a, b, c = chance.choice(groups(n)), chance.choice(groups(n)), chance.randrange(2 ** n)
            facts.append(chance.choice((("tells", c, b), ("silent", a, b, c))))
        return facts

    def expect(self, n, facts, row):
        found = expect_own(self, by_sorts, (n, facts, row))
        self.assertEqual(found, self.own_by_sorts(n, facts, row), (n, facts, row))
        self.assertIs(type(found), tuple)
        musts = [(self.own_fact_row(n, fact), "=", 0) for fact in facts]
        self.assertEqual(found == ("so",), follows(n, musts, (row, ">", 0))[0], (n, facts, row))
        return found

    def test_held_against_what_follows(self):
        chance = random.Random(211)
        seen = Counter()
        for n, givens, row in questions(212, 8, names=(1, 2, 3), most=1):
            found = self.expect(n, self.random_facts(n, chance.randint(0, 4), chance), row)
            seen[found] += 1
        self.assertGreater(seen[("so",)], 50)
        self.assertEqual({found[1] for found in seen if found[0] == "broken"}, set(own_sorts(3)) - {("coin", 7)})

    def test_silent_names(self):
        chance = random.Random(214)
        seen = Counter()
        for _ in range(80):
            facts = [("silent",) + chance.choice(((1, 2), (1, 4), (2, 4))) + (0,) for _ in range(chance.randint(1, 4))]
            for g in groups(3):
                for a, b in ((1, 2), (1, 4), (2, 4), (1, 6)):
                    seen[self.expect(3, facts, [-x for x in own_shared(3, a, b, g)])] += 1
        self.assertGreater(min(seen[("so",)], seen["broken", ODD], seen["broken", ("coin", 5)]), 20, seen)

    def test_rows_that_the_facts_settle(self):
        chance = random.Random(213)
        for n in (1, 2, 3):
            for _ in range(60):
                facts = self.random_facts(n, chance.randint(1, 4), chance)
                for sign in (1, -1):
                    row = [sign * x for x in self.own_fact_row(n, chance.choice(facts))]
                    self.assertEqual(self.expect(n, facts, row), ("so",))
                    self.expect(n, facts[1:], row)

    def test_each_rule_and_its_opposite(self):
        for n in (1, 2, 3):
            for rule in own_rules(n):
                row = own_rule_row(n, rule)
                self.assertEqual(self.expect(n, [], row), ("so",))
                self.assertEqual(self.expect(n, [], [-x for x in row])[0], "broken")

    def test_by_hand(self):
        self.assertEqual(by_sorts(1, [], [-1]), ("broken", ("coin", 1)))
        self.assertEqual(by_sorts(1, [("tells", 0, 1)], [-1]), ("so",))
        self.assertEqual(by_sorts(2, [("tells", 1, 2)], [1, -1, 0]), ("so",))
        self.assertEqual(by_sorts(2, [("tells", 2, 1)], [1, -1, 0]), ("broken", ("coin", 2)))
        # Two silent pairs don't silence one name and the two others.
        silent = [("silent", 1, 2, 0), ("silent", 1, 4, 0)]
        row = [-x for x in own_shared(3, 1, 6, 0)]
        self.assertEqual(by_sorts(3, silent, row), ("broken", ("odd",)))
        self.assertEqual(by_sorts(3, [("silent", 1, 6, 0)], [-x for x in own_shared(3, 1, 2, 4)]), ("so",))

    def test_far_numbers(self):
        self.assertEqual(self.expect(2, [], [FAR, FAR, -FAR]), ("so",))
        self.assertEqual(self.expect(2, [], [FAR, FAR - 1, -FAR]), ("broken", ("coin", 2)))


class WholeTest(unittest.TestCase):
    def test_each_table_that_keeps_the_rules_is_that_of_a_heap(self):
        for n, most in ((1, 4), (2, 3), (3, 2)):
            kept = 0
            for table in product(range(most * n + 1), repeat=2 ** n - 1) if n < 3 else self.some_of_three():
                table = list(table)
                if own_keeps_rules(n, table):
                    kept += 1
                    self.assertEqual(coin_table(heap_of(n, table)), table)
                    self.assertEqual(own_sum(n, sort_counts(n, table)), table)
                else:
                    self.assertEqual(expect_kind(self, "NoTable", heap_of, (n, table)).rule,
                                     own_first_broken(n, table))
            self.assertGreater(kept, 4)

    def some_of_three(self):
        chance = random.Random(221)
        return [[chance.randint(0, 2) + chance.choice((0, 1)) * (len(names_of(g)) - 1) for g in groups(3)]
                for _ in range(3000)]


if __name__ == "__main__":
    unittest.main()
