"""What the document promises over several modules at once (points 2 and 3), and the interface."""

import importlib
import inspect
import random
import unittest

from asking import questions
from heaps import heaps, own_coin_table
from owning import expect_own
from reckoning import groups, own_follow_holds, own_rest, own_shared, own_value
from telltight.answertexts import read_follow, show_follow
from telltight.bends import bends
from telltight.books import fewest, spare, thinned
from telltight.coins import beside, coin_table
from telltight.follows import follow_holds, follows
from telltight.four import four_row, four_shown
from telltight.locks import lock_answer, lock_givens, lock_told, mattering
from telltight.musts import brought, silent, tells
from telltight.parts import parts_of
from telltight.questions import answer
from telltight.ranges import range_of, ranges, settled
from telltight.rows import rest, shared, unsure
from telltight.rules import rule_row, rules
from telltight.safes import opened_by, safe_of
from telltight.silences import brought_pairs, sort_against
from telltight.sorts import by_sorts, heap_of, sort_counts, sort_heap, sort_table, sorts
from telltight.splits import split_rest, split_shared
from telltight.texts import read_heap, read_saying, show_heap, show_saying

INTERFACE = {
    "rows": {"greatest": 1, "unsure": 2, "rest": 3, "shared": 4, "value": 2},
    "rules": {"rules": 1, "rule_row": 2, "keeps_rules": 2},
    "splits": {"split_rest": 3, "split_shared": 4},
    "questions": {"answer": 3},
    "judge": {"holds": 4},
    "follows": {"follows": 3, "follow_holds": 4},
    "musts": {"tells": 3, "silent": 4, "brought": 2},
    "books": {"fewest": 3, "spare": 2, "thinned": 2},
    "parts": {"parts_of": 2, "table_of_parts": 2, "part_row": 2},
    "coins": {"seen": 3, "known": 3, "known_holds": 4, "coin_table": 1, "counted": 2, "beside": 2, "taken": 2,
              "common_views": 3},
    "sorts": {"sorts": 1, "sort_heap": 2, "sort_table": 2, "sort_counts": 2, "heap_of": 2, "by_sorts": 3},
    "silences": {"brought_pairs": 2, "steps_hold": 4, "sort_against": 3},
    "four": {"four_row": 4, "four_table": 4, "four_shown": 5},
    "texts": {"show_row": 2, "show_saying": 2, "show_heap": 1, "read_row": 2, "read_saying": 2, "read_heap": 1},
    "court": {"Court": 0},
    "bends": {"bends": 4, "least_at": 5},
    "answertexts": {"show_answer": 1, "show_follow": 1, "read_answer": 1, "read_follow": 1},
    "ranges": {"range_of": 3, "ranges": 2, "settled": 2, "outlying": 4},
    "locks": {"mattering": 2, "lock_givens": 2, "lock_answer": 2, "lock_told": 3},
    "safes": {"least_openers": 2, "turned_openers": 2, "all_openers": 1, "safe_of": 2, "opened_by": 1, "both_safes": 2},
}


class InterfaceTest(unittest.TestCase):
    def test_everything_is_there(self):
        for module, functions in INTERFACE.items():
            held = importlib.import_module(f"telltight.{module}")
            for name, many in functions.items():
                self.assertEqual(len(inspect.signature(getattr(held, name)).parameters), many, (module, name))
        court = importlib.import_module("telltight.court").Court()
        self.assertEqual(len(inspect.signature(court.say).parameters), 1)


class OwnTest(unittest.TestCase):
    def test_of_questions_and_books(self):
        for n, givens, row in questions(731, 1, most=4):
            saying = (row, ">", 1)
            expect_own(self, answer, (n, givens, row))
            expect_own(self, follows, (n, givens, saying))
            expect_own(self, follows, (n, givens, (row, "=", 0)))
            expect_own(self, fewest, (n, givens, saying))
            for function in (spare, thinned, ranges, settled):
                expect_own(self, function, (n, givens))
            expect_own(self, range_of, (n, givens, row))
            for place, given in enumerate(givens[:2]):
                if given[1] == "=":
                    expect_own(self, bends, (n, givens, place, row))

    def test_of_rows_and_rules(self):
        for n in (1, 2, 3, 4):
            for rule in expect_own(self, rules, (n,)):
                expect_own(self, rule_row, (n, rule))
            for a in groups(n):
                expect_own(self, unsure, (n, a))
                for b in groups(n)[::3]:
                    expect_own(self, rest, (n, a, b))
                    expect_own(self, split_rest, (n, a, b))
                    expect_own(self, shared, (n, a, b, 0))
                    expect_own(self, split_shared, (n, a, b, 0))
                    expect_own(self, tells, (n, a, b))
                    expect_own(self, silent, (n, a, b, 0))

    def test_of_locks_and_musts(self):
        for n, openers in ((2, [2]), (3, []), (3, [2, 6]), (4, [0]), (4, [6, 10, 2])):
            for function in (mattering, lock_givens, lock_answer):
                expect_own(self, function, (n, openers))
            expect_own(self, lock_told, (n, openers, [1] * (2 ** n - 1)))
            expect_own(self, brought, (n, lock_givens(n, openers)[:2]))


class MustsTest(unittest.TestCase):
    def random_facts(self, n, chance):
        facts = []
        for _ in range(chance.randint(0, 4)):
            a, b, c = chance.choice(groups(n)), chance.choice(groups(n)), chance.randrange(2 ** n)
            facts.append(chance.choice((("tells", c, b), ("silent", a, b, c))))
        return facts

    def must_of(self, n, fact):
        return tells(n, *fact[1:]) if fact[0] == "tells" else silent(n, *fact[1:])

    def test_what_does_not_follow_is_broken_by_a_heap(self):
        chance = random.Random(701)
        broken = 0
        for n, givens, row in questions(702, 4, names=(1, 2, 3), most=0):
            facts = self.random_facts(n, chance)
            musts = [self.must_of(n, fact) for fact in facts]
            told = by_sorts(n, facts, row)
            found = follows(n, musts, (row, ">", 0))
            self.assertEqual(told == ("so",), found[0])
            if not found[0]:
                broken += 1
                table = own_coin_table(sort_heap(n, told[1]))
                self.assertTrue(all(own_value(must[0], table) == 0 for must in musts))
                self.assertLess(own_value(row, table), 0)
                self.assertTrue(own_follow_holds(n, musts, (row, ">", 0), (False, (table, 1))))
        self.assertGreater(broken, 20)

    def test_brought_musts_are_facts(self):
        chance = random.Random(703)
        for n in (1, 2, 3):
            for _ in range(20):
                facts = self.random_facts(n, chance)
                found = brought(n, [self.must_of(n, fact) for fact in facts])
                for fact in found:
                    # What the first facts bring they keep: no sort breaks it.
                    row = own_rest(n, fact[2], fact[1]) if fact[0] == "tells" else own_shared(n, *fact[1:])
                    self.assertEqual(by_sorts(n, facts, [-x for x in row]), ("so",), (n, facts, fact))
                for row in ([1] * (2 ** n - 1), [-1] * (2 ** n - 1)):
                    musts = [self.must_of(n, fact) for fact in found[:4]]
                    self.assertEqual(by_sorts(n, found[:4], row) == ("so",), follows(n, musts, (row, ">", 0))[0])

    def test_silences_are_brought_too(self):
        chance = random.Random(704)
        for _ in range(15):
            pairs = [(0, 1, chance.choice((0, 4))), (0, 2, chance.choice((0, 2))), (1, 2, chance.choice((0, 1)))]
            pairs = chance.sample(pairs, chance.randint(1, 3))
            found, steps = brought_pairs(3, pairs)
            musts = brought(3, [silent(3, 2 ** i, 2 ** j, g) for i, j, g in pairs])
            self.assertEqual([("silent", 2 ** i, 2 ** j, g) for i, j, g in found],
                             [must for must in musts if must[0] == "silent"], pairs)
            for pair in found:
                self.assertIsNone(sort_against(3, pairs, pair))


class HeapsTest(unittest.TestCase):
    def test_tables_of_heaps_are_sums_of_sorts(self):
        for heap in heaps(711, 30, 8, 4, names=(1, 2, 3)):
            n, table = len(heap[1]), coin_table(heap)
            counts = sort_counts(n, table)
            total = [0] * (2 ** n - 1)
            for sort, count in zip(sorts(n), counts):
                total = [x + count * y for x, y in zip(total, sort_table(n, sort))]
            self.assertEqual(total, table)
            other = heap_of(n, table)
            self.assertEqual(coin_table(other), table)
            self.assertEqual(coin_table(beside(heap, other)), [2 * x for x in table])
            self.assertEqual([max(0, part) for part in parts_of(n, table)][2 ** n - 2], counts[2 ** n - 2])

    def test_four_names(self):
        for heap in heaps(712, 20, 6, 3, names=(4,)):
            views, (whole, by_k, by_l, both) = four_shown(heap, 2, 0, 3, 1)
            self.assertGreaterEqual(own_value(four_row(2, 0, 3, 1), coin_table(heap)), by_k + by_l + both - whole)

    def test_safes_as_texts(self):
        for openers in ([], [0], [2], [6, 10], [14], [2, 12]):
            heap = read_heap(show_heap(safe_of(4, openers)))
            self.assertEqual(heap, safe_of(4, openers))
            self.assertEqual(opened_by(heap), openers)


class TextsTest(unittest.TestCase):
    def test_sayings_and_what_is_told_of_them(self):
        for n, givens, row in questions(721, 1, most=4):
            # Those of forty figures can be read again.
            short = [given for given in givens if max(abs(x) for x in given[0] + [given[2]]) < 10 ** 40]
            book = [read_saying(n, show_saying(n, given)) for given in short]
            self.assertEqual(book, short)
            saying = read_saying(n, show_saying(n, (row, "=", 1)))
            told = read_follow(show_follow(follows(n, book, saying)))
            self.assertIs(follow_holds(n, book, saying, told), True)
            self.assertEqual(fewest(n, book, saying) is not None, told[0])


if __name__ == "__main__":
    unittest.main()
