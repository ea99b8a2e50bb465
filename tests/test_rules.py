import random
import unittest
from math import lcm

from asking import cone_table
from reckoning import groups, own_keeps_rules, own_rule_row, own_rule_rows, own_rules, own_value, solved
from telltight.rows import rest, shared, value
from telltight.rules import keeps_rules, rule_row, rules

FAR = 10 ** 40 - 1


def table_that_breaks_one(n, place):
    """A whole table at which the rule at the place has a value below nought and no other one.

    As many rules as there are groups, independent ones with the broken one among
    them, settle a table; the broken one shall be -1, the others shall be great,
    as far as the rules outside of these come to be from nought on.
    """
    rows = own_rule_rows(n)
    for fill in range(400):
        chance = random.Random(1000 * place + fill)
        others = [k for k in range(len(rows)) if k != place]
        chance.shuffle(others)
        chosen = independent(rows, [place] + others)
        wanted = [-1] + [chance.randint(1, 6) for _ in chosen[1:]]
        table = solved([rows[k] for k in chosen], wanted)
        below = lcm(*[number.denominator for number in table])
        whole = [int(number * below) for number in table]
        values = [own_value(row, whole) for row in rows]
        if all((found < 0) == (k == place) for k, found in enumerate(values)):
            return whole
    raise AssertionError(("no table found", n, place))


def independent(rows, order):
    """The first places in the order whose rows none of the earlier ones make up."""
    chosen, reduced = [], []
    for place in order:
        line = rows[place]
        for lead, other in reduced:
            line = [x * other[lead] - y * line[lead] for x, y in zip(line, other)]
        if any(line):
            lead = next(k for k, x in enumerate(line) if x)
            chosen.append(place)
            reduced.append((lead, line))
    return chosen


class RulesTest(unittest.TestCase):
    def test_how_many(self):
        self.assertEqual([len(rules(n)) for n in (1, 2, 3, 4)], [1, 3, 9, 28])

    def test_written_out(self):
        self.assertEqual(rules(1), [("last", 0)])
        self.assertEqual(rules(2), [("last", 0), ("last", 1), ("pair", 0, 1, 0)])
        self.assertEqual(rules(3), [
            ("last", 0), ("last", 1), ("last", 2),
            ("pair", 0, 1, 0), ("pair", 0, 1, 4),
            ("pair", 0, 2, 0), ("pair", 0, 2, 2),
            ("pair", 1, 2, 0), ("pair", 1, 2, 1),
        ])

    def test_order_of_four_names(self):
        found = rules(4)
        self.assertEqual(found, own_rules(4))
        self.assertEqual(found[:5], [("last", 0), ("last", 1), ("last", 2), ("last", 3), ("pair", 0, 1, 0)])
        self.assertEqual(found[5:8], [("pair", 0, 1, 4), ("pair", 0, 1, 8), ("pair", 0, 1, 12)])
        self.assertEqual(found[-1], ("pair", 2, 3, 3))

    def test_kinds(self):
        for n in (1, 2, 3, 4):
            told = rules(n)
            self.assertIs(type(told), list)
            for rule in told:
                self.assertIs(type(rule), tuple)
                self.assertEqual([type(part) for part in rule], [str] + [int] * (len(rule) - 1))

    def test_told_lists_may_be_changed(self):
        first = rules(3)
        first.clear()
        self.assertEqual(rules(3), own_rules(3))
        row = rule_row(3, ("last", 0))
        row[0] = 99
        self.assertEqual(rule_row(3, ("last", 0)), own_rule_row(3, ("last", 0)))


class RuleRowTest(unittest.TestCase):
    def test_written_out(self):
        self.assertEqual(rule_row(1, ("last", 0)), [1])
        self.assertEqual(rule_row(2, ("last", 0)), [0, -1, 1])
        self.assertEqual(rule_row(2, ("last", 1)), [-1, 0, 1])
        self.assertEqual(rule_row(2, ("pair", 0, 1, 0)), [1, 1, -1])
        self.assertEqual(rule_row(3, ("pair", 0, 2, 2)), [0, -1, 1, 0, 0, 1, -1])

    def test_all(self):
        for n in (1, 2, 3, 4):
            for rule in own_rules(n):
                self.assertEqual(rule_row(n, rule), own_rule_row(n, rule), (n, rule))


class KeepsRulesTest(unittest.TestCase):
    def test_noughts_keep_them(self):
        for n in (1, 2, 3, 4):
            self.assertIs(keeps_rules(n, [0] * (2 ** n - 1)), True)

    def test_one_name(self):
        for number, wanted in ((0, True), (1, True), (FAR, True), (-1, False), (-FAR, False)):
            self.assertIs(keeps_rules(1, [number]), wanted)

    def test_tables_that_keep_them(self):
        chance = random.Random(1)
        for n in (1, 2, 3, 4):
            for most in (1, 3, 10 ** 37):
                for _ in range(20):
                    table = cone_table(n, chance, most)
                    self.assertTrue(own_keeps_rules(n, table))
                    self.assertIs(keeps_rules(n, table), True, table)

    def test_tables_that_break_just_one(self):
        for n in (1, 2, 3, 4):
            for place in range(len(own_rules(n))):
                table = table_that_breaks_one(n, place)
                self.assertIs(keeps_rules(n, table), False, (n, place))
                self.assertIs(keeps_rules(n, [number * 10 ** 36 for number in table]), False, (n, place))

    def test_at_the_edge_of_each_rule(self):
        # Each such table has many rules at nought; one less for a group breaks some of them.
        for n in (1, 2, 3, 4):
            for met in groups(n):
                table = [1 if g & met else 0 for g in groups(n)]
                self.assertIs(keeps_rules(n, table), True)
                for place in range(len(table)):
                    moved = list(table)
                    moved[place] -= 1
                    self.assertIs(keeps_rules(n, moved), own_keeps_rules(n, moved))

    def test_any_tables(self):
        chance = random.Random(2)
        seen = {True: 0, False: 0}
        for n in (1, 2, 3, 4):
            for _ in range(300):
                table = cone_table(n, chance, 2)
                for _ in range(chance.randint(0, 2)):
                    table[chance.randrange(len(table))] += chance.choice((-1, 1))
                wanted = own_keeps_rules(n, table)
                seen[wanted] += 1
                self.assertIs(keeps_rules(n, table), wanted)
        self.assertGreater(min(seen.values()), 50)

    def test_forty_figures_of_either_sign(self):
        self.assertIs(keeps_rules(2, [FAR, FAR, FAR]), True)
        self.assertIs(keeps_rules(2, [FAR - 1, FAR, FAR]), True)
        self.assertIs(keeps_rules(2, [FAR, FAR - 1, FAR - 1]), False)
        self.assertIs(keeps_rules(2, [-FAR, -FAR, -FAR]), False)
        self.assertIs(keeps_rules(4, [-FAR] * 15), False)

    def test_tables_that_keep_them_have_all_from_nought_on(self):
        chance = random.Random(3)
        for n in (1, 2, 3, 4):
            table = cone_table(n, chance, 4)
            for a in groups(n):
                for b in groups(n):
                    self.assertGreaterEqual(value(rest(n, a, b), table), 0)
                    for c in [0] + groups(n):
                        self.assertGreaterEqual(value(shared(n, a, b, c), table), 0)

    def test_what_was_handed_in_stays(self):
        table = [2, 3, 4]
        keeps_rules(2, table)
        self.assertEqual(table, [2, 3, 4])
        table[0] = -1
        self.assertIs(keeps_rules(2, table), False)


if __name__ == "__main__":
    unittest.main()
