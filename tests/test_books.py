import copy
import random
import unittest
from itertools import combinations

from asking import FAR, questions
from reckoning import (groups, is_table, is_told_paper, is_whole_list, lists_in, own_follow_holds, own_rest,
                       own_shared, own_unsure)
from telltight.books import fewest, spare, thinned
from telltight.follows import follows


def lists_of_places(many, few):
    return [list(places) for places in combinations(range(many), few)]


def do_follow(n, book, places, saying):
    return follows(n, [book[place] for place in places], saying)[0]


def summed(book, places, signs):
    """A saying that the members at the places bring together."""
    row = [sum(signs[k] * x for k, x in enumerate(column)) for column in zip(*(book[p][0] for p in places))]
    return row, sum(sign * book[place][2] for sign, place in zip(signs, places))


def must_books(chance, times):
    for n in (2, 3, 4):
        for _ in range(times):
            musts = []
            for _ in range(7):
                a, b, c = chance.choice(groups(n)), chance.choice(groups(n)), chance.randrange(2 ** n)
                musts.append((chance.choice((own_rest(n, a, c), own_shared(n, a, b, c))), "=", 0))
            yield n, musts[:chance.randint(0, 6)], musts[6]


def books_asked(seed, times):
    """Books with sayings: any ones, musts, and such as come of several members together."""
    chance = random.Random(seed)
    found = list(must_books(chance, 4 * times))
    for n, givens, row in questions(seed, times, most=6):
        book = givens[:6]
        found.append((n, book, (row, chance.choice("=>"), chance.randint(-5, 5))))
        if book:
            places = sorted(chance.sample(range(len(book)), chance.randint(1, len(book))))
            signs = [chance.choice((1, 2, -1)) if book[place][1] == "=" else 1 for place in places]
            line, number = summed(book, places, signs)
            found.append((n, book, (line, chance.choice("=>"), number - chance.choice((0, 0, 1)))))
    return found


class FewestTest(unittest.TestCase):
    def expect(self, n, book, saying):
        """What is told, held against follows of each list of places and against point 16 word by word."""
        kept = copy.deepcopy((book, saying))
        found = fewest(n, book, saying)
        self.assertEqual((book, saying), kept)
        if not follows(n, book, saying)[0]:
            self.assertIsNone(found)
            return None
        self.assertTrue(type(found) is tuple and len(found) == 3)
        places, papers, tables = found
        for few in range(len(places)):
            for others in lists_of_places(len(book), few):
                self.assertFalse(do_follow(n, book, others, saying))
        first = next(one for one in lists_of_places(len(book), len(places)) if do_follow(n, book, one, saying))
        self.assertEqual(places, first)
        self.assertTrue(is_whole_list(places, len(first)))
        self.expect_papers(n, [book[place] for place in places], saying, papers)
        self.expect_tables(n, book, saying, places, tables)
        return found

    def expect_papers(self, n, members, saying, papers):
        self.assertIs(type(papers), list)
        self.assertTrue(all(is_told_paper(n, members, paper) for paper in papers))
        self.assertTrue(own_follow_holds(n, members, saying, (True, papers)))
        noughts = [0] * (2 ** n - 1)
        gainsaying = follows(n, members, (noughts, ">", 1))[0]
        self.assertEqual([paper[0] for paper in papers], ["never" if gainsaying else "by"] * len(papers))

    def expect_tables(self, n, book, saying, places, tables):
        self.assertIs(type(tables), list)
        wanted = lists_of_places(len(book), len(places) - 1) if places else []
        self.assertEqual([others for others, table in tables], wanted)
        for pair in tables:
            self.assertTrue(type(pair) is tuple and len(pair) == 2 and type(pair[0]) is list)
            self.assertTrue(is_table(n, pair[1]))
            members = [book[place] for place in pair[0]]
            self.assertTrue(own_follow_holds(n, members, saying, (False, pair[1])))

    def test_of_many_books(self):
        seen = {}
        for n, book, saying in books_asked(61, 8):
            found = self.expect(n, book, saying)
            many = None if found is None else len(found[0])
            seen[many] = seen.get(many, 0) + 1
        for many in (None, 0, 1, 2, 3):
            self.assertGreater(seen.get(many, 0), 3, many)

    def test_how_few(self):
        # The number of each name; the names together, so many of them, need just as many members.
        for n in (3, 4):
            book = [(own_unsure(n, 1 << k), "=", k + 1) for k in range(n)] + [(own_unsure(n, 3), "=", 2)]
            for few in range(1, n + 1):
                line = [sum(column) for column in zip(*(book[k][0] for k in range(few)))]
                number = sum(book[k][2] for k in range(few))
                places = self.expect(n, book, (line, "=", number))[0]
                self.assertEqual(len(places), few)

    def test_six_members_all_needed(self):
        rows = [own_unsure(3, g) for g in (1, 2, 4, 3, 5, 6)]
        book = [(row, "=", 4 if row[0] or row[1] or row[3] else 6) for row in rows]
        together = [sum(column) for column in zip(*rows)]
        found = self.expect(3, book, (together, "=", sum(member[2] for member in book)))
        self.assertEqual(found[0], [0, 1, 2, 3, 4, 5])
        self.assertEqual(len(found[2]), 6)

    def test_the_first_of_several(self):
        row = own_unsure(2, 1)
        book = [(own_unsure(2, 2), "=", 1), (row, ">", 5), (row, "=", 5), (row, ">", 7)]
        self.assertEqual(self.expect(2, book, (row, ">", 5))[0], [1])
        self.assertEqual(self.expect(2, book, (row, ">", 6))[0], [3])
        self.assertEqual(self.expect(2, book, (row, "=", 5))[0], [2])
        self.assertEqual(self.expect(2, book, (row, "=", 9))[0], [2, 3])
        self.assertEqual(self.expect(2, book[:3], (row, "=", 9)), None)

    def test_members_that_gainsay_one_another(self):
        row = own_unsure(2, 3)
        book = [(row, ">", 1), (row, "=", 3), (own_unsure(2, 1), "=", 2), (row, "=", 4), (row, "=", 5)]
        found = self.expect(2, book, (row, "=", FAR))
        self.assertEqual(found[0], [1, 3])
        self.assertEqual([paper[0] for paper in found[1]], ["never", "never"])
        self.assertEqual([others for others, table in found[2]], [[0], [1], [2], [3], [4]])
        found = self.expect(2, [(row, "=", 2), (row, "=", -1)], (row, ">", 7))
        self.assertEqual((found[0], found[1][0][0]), ([1], "never"))

    def test_from_none_of_them(self):
        row = own_unsure(2, 1)
        for book in ([], [(row, "=", 3)], [(row, "=", -3)]):
            found = self.expect(2, book, (row, ">", 0))
            self.assertEqual((found[0], found[2]), ([], []))
            self.assertEqual(len(found[1]), 1)
        found = self.expect(2, [(row, "=", 1)], ([0, 0, 0], "=", 0))
        self.assertEqual((found[0], len(found[1]), found[2]), ([], 2, []))

    def test_the_empty_book(self):
        for n in (1, 2, 3, 4):
            row = own_unsure(n, 1)
            self.assertIsNone(fewest(n, [], (row, ">", 1)))
            self.assertIsNone(fewest(n, [], (row, "=", 0)))
            self.assertEqual(self.expect(n, [], (row, ">", 0))[0], [])

    def test_lists_are_the_askers_own(self):
        for n, book, saying in books_asked(62, 1):
            found = fewest(n, book, saying)
            copied = copy.deepcopy(found)
            told = lists_in(found)
            handed = lists_in((book, saying))
            self.assertEqual(len({id(thing) for thing in told}), len(told))
            self.assertFalse({id(thing) for thing in told} & {id(thing) for thing in handed})
            for thing in told:
                thing.append(5)
                thing[0] = 77
            self.assertEqual(fewest(n, book, saying), copied)

    def test_what_was_handed_in_may_be_changed(self):
        for n, book, saying in books_asked(63, 1)[::3]:
            book, saying = copy.deepcopy((book, saying))
            found = fewest(n, book, saying)
            copied = copy.deepcopy(found)
            for row in [member[0] for member in book] + [saying[0]]:
                row[0] += 3
            book.clear()
            self.assertEqual(found, copied)


def own_spare(n, book):
    found = []
    for place, member in enumerate(book):
        if follows(n, book[:place] + book[place + 1:], member)[0]:
            found.append(place)
    return found


def own_thinned(n, book):
    left = list(enumerate(book))
    for pair in list(reversed(left)):
        others = [other for other in left if other[0] != pair[0]]
        if follows(n, [member for place, member in others], pair[1])[0]:
            left = others
    return [place for place, member in left]


class SpareTest(unittest.TestCase):
    def expect(self, n, book):
        kept = copy.deepcopy(book)
        spared, left = spare(n, book), thinned(n, book)
        self.assertEqual(book, kept)
        self.assertEqual(spared, own_spare(n, book), (n, book))
        self.assertEqual(left, own_thinned(n, book), (n, book))
        self.assertTrue(is_whole_list(spared, len(spared)) and is_whole_list(left, len(left)))
        members = [book[place] for place in left]
        for member in book:
            self.assertTrue(follows(n, members, member)[0])
        for place, member in enumerate(members):
            self.assertFalse(follows(n, members[:place] + members[place + 1:], member)[0])
        return spared, left

    def test_of_many_books(self):
        seen = {}
        for n, book, saying in books_asked(64, 6):
            spared, left = self.expect(n, (book + [saying])[:6])
            seen[len(left)] = seen.get(len(left), 0) + 1
        for many in (0, 1, 2, 3):
            self.assertGreater(seen.get(many, 0), 5, many)

    def test_by_hand(self):
        row = own_unsure(2, 1)
        self.assertEqual(self.expect(2, []), ([], []))
        self.assertEqual(self.expect(2, [(row, ">", 0)]), ([0], []))
        self.assertEqual(self.expect(2, [(row, "=", 1)]), ([], [0]))
        self.assertEqual(self.expect(2, [(row, "=", 1)] * 3), ([0, 1, 2], [0]))
        self.assertEqual(self.expect(2, [(row, ">", 1), (row, "=", 1), (row, ">", -1)]), ([0, 2], [1]))
        self.assertEqual(self.expect(2, [(row, "=", -1), (row, "=", 1), (row, "=", 2)]), ([0, 1, 2], [0]))
        self.assertEqual(self.expect(2, [(row, "=", 1), (row, "=", 2), (row, "=", -1)]), ([0, 1, 2], [0, 1]))

    def test_the_same_again(self):
        row = own_unsure(2, 1)
        book = [(row, ">", 1), (row, "=", 1), (own_unsure(2, 3), "=", 4)]
        for function in (spare, thinned):
            first = function(2, book)
            kept = list(first)
            first.append(9)
            first[0] = 7
            self.assertEqual(function(2, book), kept)


if __name__ == "__main__":
    unittest.main()
