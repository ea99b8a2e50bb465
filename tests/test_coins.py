import random
import unittest
from collections import Counter

from heaps import (all_faces, heaps, is_heap, is_view, own_coin_table, own_known_holds, own_knows, own_places,
                   own_rank, own_seen, own_seen_of, own_views, random_heap, random_view, sum_of_views)
from owning import expect_own
from reckoning import groups, is_whole, is_whole_list, names_of, own_keeps_rules
from telltight.coins import beside, coin_table, common_views, counted, known, known_holds, seen, taken
from telltight.rules import keeps_rules

HAND = (3, [[[0], [1]], [[0, 1], []], [[2], [2]], []])


def asked_views(heap, g, chance):
    """Views that the group's views sum up to, these with a coin more or less, and any other ones."""
    many = heap[0]
    found = [[], list(range(many))] + [list(view) for view in own_views(heap, g)][:3]
    for _ in range(3):
        views = own_views(heap, g)
        total = sum_of_views(chance.sample(views, chance.randint(0, len(views))), many)
        found.append(total)
        if many:
            found.append(sorted(set(total) ^ {chance.randrange(many)}))
        found.append(random_view(many, chance))
    return found


def every_view(many):
    return [[coin for coin in range(many) if faces[coin]] for faces in all_faces(many)]


class SeenTest(unittest.TestCase):
    def test_group_by_group(self):
        chance = random.Random(121)
        for heap in heaps(122, 12, 40, 40) + heaps(123, 20, 5, 3):
            for g in groups(len(heap[1])):
                for faces in ([0] * heap[0], [1] * heap[0], [chance.randrange(2) for _ in range(heap[0])]):
                    found = seen(heap, g, faces)
                    self.assertEqual(found, own_seen(heap, g, faces), (heap, g, faces))
                    self.assertTrue(is_whole_list(found, len(own_places(heap, g))))

    def test_by_hand(self):
        self.assertEqual(seen(HAND, 15, [1, 0, 1]), [1, 0, 1, 0, 1, 1])
        self.assertEqual(seen(HAND, 2, [1, 1, 0]), [0, 0])
        self.assertEqual(seen(HAND, 12, [1, 1, 0]), [0, 0])
        self.assertEqual(seen(HAND, 8, [1, 1, 1]), [])
        self.assertEqual(seen((0, [[[]], []]), 3, []), [0])
        self.assertEqual(seen((40, [[list(range(40)), [39]]]), 1, [1] * 40), [0, 1])

    def test_owned(self):
        for heap in heaps(124, 8, 6, 4):
            for g in groups(len(heap[1])):
                expect_own(self, seen, (heap, g, [1] * heap[0]))


class KnownTest(unittest.TestCase):
    def expect(self, heap, g, view):
        found = known(heap, g, view)
        self.assertTrue(type(found) is tuple and len(found) == 2 and type(found[1]) is list, found)
        self.assertEqual(found[0], "known" if own_knows(heap, g, view) else "open", (heap, g, view))
        self.assertTrue(own_known_holds(heap, g, view, found), (heap, g, view, found))
        self.assertIs(known_holds(heap, g, view, found), True)
        if found[0] == "known":
            self.assertTrue(all(type(place) is tuple and all(is_whole(part) for part in place) for place in found[1]))
        else:
            self.assertTrue(all(is_whole(coin) for coin in found[1]))
        return found[0]

    def test_heaps_by_draws(self):
        chance = random.Random(131)
        told = Counter()
        for heap in heaps(132, 25, 8, 5) + heaps(133, 6, 40, 40):
            for g in groups(len(heap[1])):
                for view in asked_views(heap, g, chance):
                    told[self.expect(heap, g, view)] += 1
        self.assertGreater(min(told["known"], told["open"]), 1000, told)

    def test_by_all_ways_in_which_the_coins_can_lie(self):
        for heap in heaps(134, 10, 4, 3):
            for g in groups(len(heap[1])):
                for view in every_view(heap[0]):
                    told = {}
                    for faces in all_faces(heap[0]):
                        told.setdefault(tuple(own_seen(heap, g, faces)), set()).add(own_seen_of(view, faces))
                    settled = all(len(faces) == 1 for faces in told.values())
                    self.assertEqual(known(heap, g, view)[0], "known" if settled else "open", (heap, g, view))

    def test_forty_coins(self):
        alone = (40, [[[coin] for coin in range(40)], [], [list(range(coin, 40)) for coin in range(40)]])
        chain = (40, [[[coin, coin + 1] for coin in range(39)], [[0]], [[39]] * 40])
        for heap in (alone, chain):
            for g in groups(3):
                for view in ([], [0], [39], list(range(40)), [0, 39], list(range(0, 40, 2)), list(range(1, 40, 3))):
                    self.expect(heap, g, view)
        self.assertEqual(known(alone, 1, [3, 7, 39]), ("known", [(0, 3), (0, 7), (0, 39)]))
        self.assertEqual(known(alone, 4, [0]), ("known", [(2, 0), (2, 1)]))
        self.assertEqual(known(alone, 2, [5])[0], "open")
        self.assertEqual(known(chain, 1, [0, 39]), ("known", [(0, number) for number in range(39)]))
        self.assertEqual(known(chain, 1, [0]), ("open", list(range(40))))

    def test_by_hand(self):
        self.assertEqual(known(HAND, 1, [0, 1]), ("known", [(0, 0), (0, 1)]))
        self.assertEqual(known(HAND, 2, [0]), ("open", [0, 1]))
        self.assertEqual(known(HAND, 8, []), ("known", []))
        self.assertEqual(known(HAND, 8, [1]), ("open", [1]))
        self.assertEqual(known((0, [[]]), 1, []), ("known", []))
        self.assertEqual(known((1, [[], [[0]]]), 2, [0]), ("known", [(1, 0)]))

    def test_owned(self):
        chance = random.Random(135)
        for heap in heaps(136, 6, 8, 5):
            for g in groups(len(heap[1])):
                for view in asked_views(heap, g, chance)[::2]:
                    expect_own(self, known, (heap, g, view))


class KnownHoldsTest(unittest.TestCase):
    def expect(self, heap, g, view, answer):
        wanted = own_known_holds(heap, g, view, answer)
        self.assertIs(known_holds(heap, g, view, answer), wanted, (heap, g, view, answer))
        return wanted

    def changed(self, heap, g, answer, chance):
        """The answer with its list changed in the ways that may make it none."""
        word, told = answer
        far = 10 ** 40 - 1
        if word == "known":
            more = [(name, number) for name in range(-1, len(heap[1]) + 1)
                    for number in (-1, 0, 1, len(heap[1][name]) - 1 if name in range(len(heap[1])) else 2,
                                   len(heap[1][name]) if name in range(len(heap[1])) else 3)]
            more += [(0, far), (far, 0), (-far, -far)] + own_places(heap, g)
        else:
            more = [-1, -far, far, heap[0]] + list(range(heap[0]))
        lists = [told[::-1], told + told, []]
        lists += [told[:place] + told[place + 1:] for place in range(len(told))]
        lists += [told[:place] + [told[place]] + told[place:] for place in range(len(told))]
        for thing in chance.sample(more, min(len(more), 12)):
            lists.append(sorted(told + [thing]))
            lists.append(told + [thing])
            lists += [sorted(told[:place] + [thing] + told[place + 1:]) for place in range(len(told))][:3]
            if thing not in told:
                # Alike views may stand in for one another, and a view without coins beside all.
                lists += [sorted(set(told) ^ {thing, other}) for other in more[-4:]]
        return [(word, other) for other in lists]

    def test_told_ones_and_changed_ones(self):
        chance = random.Random(141)
        seen_so = Counter()
        for heap in heaps(142, 12, 7, 4) + heaps(143, 1, 40, 40):
            for g in groups(len(heap[1])):
                for view in asked_views(heap, g, chance)[::2]:
                    answer = known(heap, g, view)
                    seen_so[answer[0], self.expect(heap, g, view, answer)] += 1
                    for other in self.changed(heap, g, answer, chance):
                        seen_so[answer[0], self.expect(heap, g, view, other)] += 1
        for word in ("known", "open"):
            for wanted in (True, False):
                self.assertGreater(seen_so[word, wanted], 500, seen_so)

    def test_the_other_word_or_none(self):
        chance = random.Random(144)
        for heap in heaps(145, 12, 7, 4):
            for g in groups(len(heap[1])):
                for view in asked_views(heap, g, chance)[::3]:
                    word, told = known(heap, g, view)
                    for other in ({"known": "open", "open": "known"}[word], "", "no", "Known", "open ", "opened"):
                        self.assertIs(known_holds(heap, g, view, (other, told)), False, (heap, g, view, other, told))

    def test_of_another_group(self):
        chance = random.Random(146)
        for heap in heaps(147, 10, 6, 3):
            for g in groups(len(heap[1])):
                for view in asked_views(heap, g, chance)[::3]:
                    answer = known(heap, g, view)
                    for h in groups(len(heap[1])):
                        self.expect(heap, h, view, answer)

    def test_of_each_list_of_a_small_heap(self):
        heap = (3, [[[0], [0, 1], [1]], [[2]], [[]]])
        for g in groups(3):
            for view in every_view(3):
                for chosen in every_view(5):
                    places = [own_places(heap, 7)[k] for k in chosen]
                    self.expect(heap, g, view, ("known", places))
                for coins in every_view(4):
                    self.expect(heap, g, view, ("open", coins))

    def test_by_hand(self):
        for answer, wanted in ((("known", [(0, 0), (0, 1)]), True), (("known", [(1, 0)]), False),
                               (("known", [(0, 1), (0, 0)]), False), (("known", [(0, 0), (0, 0)]), False),
                               (("known", [(0, 0), (0, 1), (0, 2)]), False), (("known", [(0, 0), (0, -1)]), False),
                               (("known", [(-1, 0), (0, 0), (0, 1)]), False), (("known", [(4, 0)]), False),
                               (("known", []), False), (("open", [0]), False), (("open", []), False),
                               (("known", [0, 1]), False), (("open", [(0, 0), (0, 1)]), False)):
            self.assertIs(known_holds(HAND, 1, [0, 1], answer), wanted, answer)
        for answer, wanted in ((("open", [0, 1]), True), (("open", [0, 1, 2]), True), (("open", [1, 0]), False),
                               (("open", [0, 0]), False), (("open", [0]), False), (("open", [0, 1, 3]), False),
                               (("open", [-1, 0, 1]), False), (("open", [0, 1, 1]), False), (("open", []), False)):
            self.assertIs(known_holds(HAND, 2, [0], answer), wanted, answer)
        self.assertIs(known_holds(HAND, 2, [], ("known", [(1, 1)])), True)
        self.assertIs(known_holds(HAND, 3, [0, 1], ("known", [(1, 0), (1, 1)])), True)
        self.assertIs(known_holds(HAND, 4, [], ("known", [(2, 0), (2, 1)])), True)

    def test_what_is_handed_in_stays(self):
        for answer in (("known", [(0, 0), (0, 1)]), ("known", [(0, 1), (0, 0)]), ("open", [2, 1]), ("x", [])):
            expect_own(self, known_holds, (HAND, 1, [0, 1], answer))


class TableTest(unittest.TestCase):
    def test_by_all_ways_in_which_the_coins_can_lie(self):
        for heap in heaps(151, 20, 5, 4):
            table = coin_table(heap)
            for g, number in zip(groups(len(heap[1])), table):
                ways = Counter(tuple(own_seen(heap, g, faces)) for faces in all_faces(heap[0]))
                self.assertEqual(len(ways), 2 ** number, (heap, g))
                self.assertEqual(set(ways.values()), {2 ** (heap[0] - number)}, (heap, g))

    def test_it_keeps_all_rules(self):
        for heap in heaps(152, 25, 8, 5) + heaps(153, 8, 40, 40):
            table = expect_own(self, coin_table, (heap,))
            self.assertTrue(is_whole_list(table, 2 ** len(heap[1]) - 1))
            self.assertEqual(table, own_coin_table(heap), heap)
            self.assertIs(keeps_rules(len(heap[1]), table), True, heap)
            self.assertTrue(own_keeps_rules(len(heap[1]), table))

    def test_by_hand(self):
        self.assertEqual(coin_table(HAND), [2, 1, 2, 1, 3, 2, 3, 0, 2, 1, 2, 1, 3, 2, 3])
        self.assertEqual(coin_table((2, [[[0]], [[1]], [[0, 1]]])), [1, 1, 2, 1, 2, 2, 2])
        self.assertEqual(coin_table((0, [[]])), [0])
        self.assertEqual(coin_table((0, [[[]], [[], []]])), [0, 0, 0])
        self.assertEqual(coin_table((40, [[[coin] for coin in range(40)], [[coin] for coin in range(40)]])),
                         [40, 40, 40])
        self.assertEqual(coin_table((40, [[[3]] * 40, [[coin] for coin in range(7)]])), [1, 7, 7])


class CountedTest(unittest.TestCase):
    def expect(self, heap, g):
        found = expect_own(self, counted, (heap, g))
        ways = Counter(tuple(own_seen(heap, g, faces)) for faces in all_faces(heap[0]))
        self.assertEqual(found, sorted(ways.items()), (heap, g))
        self.assertTrue(all(type(pair) is tuple and type(pair[0]) is tuple and is_whole(pair[1]) for pair in found))
        self.assertTrue(all(is_whole(number) for pair in found for number in pair[0]))

    def test_face_by_face(self):
        for heap in heaps(161, 10, 5, 4):
            for g in groups(len(heap[1])):
                self.expect(heap, g)

    def test_eight_coins(self):
        chance = random.Random(162)
        for most in (1, 2, 9, 40):
            heap = random_heap(4, 8, most, chance)
            for g in (1, 6, 15):
                self.expect(heap, g)
        heap = (8, [[[coin] for coin in range(8)]])
        self.assertEqual(counted(heap, 1), [(tuple(faces), 1) for faces in all_faces(8)])

    def test_by_hand(self):
        self.assertEqual(counted((0, [[]]), 1), [((), 1)])
        self.assertEqual(counted((3, [[], [[0]]]), 1), [((), 8)])
        self.assertEqual(counted((0, [[[]]]), 1), [((0,), 1)])
        self.assertEqual(counted(HAND, 3), [((0, 0, 0, 0), 2), ((0, 1, 1, 0), 2), ((1, 0, 1, 0), 2),
                                            ((1, 1, 0, 0), 2)])


class BesideTest(unittest.TestCase):
    def own_beside(self, one, other):
        views = []
        for name in range(len(one[1])):
            mine = [list(view) for view in one[1][name]]
            views.append(mine + [[one[0] + coin for coin in view] for view in other[1][name]])
        return (one[0] + other[0], views)

    def test_coins_and_views(self):
        chance = random.Random(171)
        for one in heaps(172, 12, 18, 4):
            other = random_heap(len(one[1]), chance.choice((0, 1, 18)), 4, chance)
            found = expect_own(self, beside, (one, other))
            self.assertEqual(found, self.own_beside(one, other))
            self.assertTrue(is_heap(found, len(one[1])), found)
            sums = [x + y for x, y in zip(own_coin_table(one), own_coin_table(other))]
            self.assertEqual(coin_table(found), sums)

    def test_a_heap_beside_itself(self):
        for heap in heaps(173, 4, 18, 4):
            found = beside(heap, heap)
            self.assertEqual(found, self.own_beside(heap, heap))

    def test_taken(self):
        for heap in heaps(174, 12, 12, 3):
            wanted = (0, [[] for _ in heap[1]])
            for times in (0, 1, 2, 3):
                found = expect_own(self, taken, (heap, times))
                self.assertEqual(found, wanted, (heap, times))
                self.assertTrue(is_heap(found, len(heap[1])), found)
                self.assertEqual(coin_table(found), [times * x for x in own_coin_table(heap)])
                wanted = self.own_beside(wanted, heap)

    def test_by_hand(self):
        one, other = (2, [[[0, 1]], []]), (3, [[[2], []], [[0, 1]]])
        self.assertEqual(beside(one, other), (5, [[[0, 1], [4], []], [[2, 3]]]))
        self.assertEqual(beside(other, one), (5, [[[2], [], [3, 4]], [[0, 1]]]))
        self.assertEqual(taken(one, 0), (0, [[], []]))
        self.assertEqual(taken(one, 1), one)
        self.assertEqual(taken(one, 3), (6, [[[0, 1], [2, 3], [4, 5]], []]))


class CommonTest(unittest.TestCase):
    def expect(self, heap, a, b):
        found = common_views(heap, a, b)
        self.assertTrue(type(found) is list and all(is_view(view, heap[0]) for view in found), found)
        for view in found:
            self.assertTrue(own_knows(heap, a, view) and own_knows(heap, b, view), (heap, a, b, view))
        self.assertEqual(own_rank(found), len(found), (heap, a, b, found))
        table = own_coin_table(heap)
        shared = table[a - 1] + table[b - 1] - table[(a | b) - 1]
        self.assertEqual(len(found), shared, (heap, a, b))
        return len(found)

    def test_heaps_by_draws(self):
        seen_so = Counter()
        for heap in heaps(181, 24, 8, 6):
            for a in groups(len(heap[1])):
                for b in groups(len(heap[1])):
                    seen_so[min(2, self.expect(heap, a, b)), bool(names_of(a) & names_of(b))] += 1
        self.assertGreater(min(seen_so[k, meet] for k in (0, 1, 2) for meet in (True, False)), 30, seen_so)

    def test_forty_coins(self):
        chance = random.Random(182)
        for heap in [random_heap(4, 40, 40, chance) for _ in range(6)]:
            for a, b in ((1, 2), (3, 12), (5, 6), (15, 15), (8, 8), (7, 8)):
                self.expect(heap, a, b)
        heap = (40, [[[coin] for coin in range(40)], [list(range(coin + 1)) for coin in range(40)]])
        self.assertEqual(self.expect(heap, 1, 2), 40)

    def test_by_all_views(self):
        for heap in heaps(183, 8, 5, 3):
            for a in groups(len(heap[1])):
                for b in groups(len(heap[1]))[::2]:
                    both = [view for view in every_view(heap[0]) if own_knows(heap, a, view)
                            and own_knows(heap, b, view)]
                    self.assertEqual(2 ** len(common_views(heap, a, b)), len(both), (heap, a, b))

    def test_by_hand(self):
        self.assertEqual(common_views(HAND, 1, 2), [[0, 1]])
        self.assertEqual(common_views(HAND, 4, 4), [[2]])
        self.assertEqual(common_views(HAND, 3, 4), [])
        self.assertEqual(common_views(HAND, 8, 15), [])

    def test_owned(self):
        for heap in heaps(184, 6, 8, 5):
            for g in groups(len(heap[1])):
                expect_own(self, common_views, (heap, g, 1))


if __name__ == "__main__":
    unittest.main()
