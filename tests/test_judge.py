import copy
import random
import unittest

from asking import FAR, questions
from changing import other_lists, other_numbers, with_parts
from reckoning import own_holds, own_rules
from telltight.judge import holds
from telltight.questions import answer


def scaled(found, by):
    """The same answer with each fraction, table, weights or way not in lowest terms."""
    if found[0] == "least":
        (top, bottom), (numbers, below), times, weights = found[1:]
        return ("least", (top * by, bottom * by), ([x * by for x in numbers], below * by), times * by,
                [x * by for x in weights])
    if found[0] == "endless":
        (numbers, below), way = found[1:]
        return ("endless", ([x * by for x in numbers], below * by), [x * by for x in way])
    return ("never", [x * by for x in found[1]])


class LookerCase(unittest.TestCase):
    def expect(self, question, found):
        """Holds says just what the tests' own reckoning says; told is what."""
        kept = copy.deepcopy((question, found))
        said = holds(*question, found)
        self.assertIs(said, own_holds(*question, found), (question, found))
        self.assertEqual((question, found), kept)
        return said


class ToldAnswersTest(LookerCase):
    def test_are_let_by(self):
        for question in questions(21, 10):
            self.assertIs(holds(*question, answer(*question)), True, question)

    def test_need_not_be_in_lowest_terms(self):
        for question in questions(22, 3):
            found = answer(*question)
            for by in (2, 7, FAR):
                self.assertIs(self.expect(question, scaled(found, by)), True)
            self.assertIs(self.expect(question, scaled(found, 0)), False)
            self.assertIs(self.expect(question, scaled(found, -1)), False)

    def test_each_number_changed(self):
        seen = {}
        for question in questions(23, 1):
            found = answer(*question)
            for other in with_parts(found, other_numbers):
                said = found[0], self.expect(question, other)
                seen[said] = seen.get(said, 0) + 1
        for making in ("least", "endless", "never"):
            self.assertGreater(seen.get((making, False), 0), 100)
            self.assertGreater(seen.get((making, True), 0), 5, "changed ones that hold all the same")

    def test_each_list_longer_or_shorter(self):
        for question in questions(24, 1):
            for other in with_parts(answer(*question), other_lists):
                self.assertIs(self.expect(question, other), False)

    def test_of_another_question(self):
        asked = [question for question in questions(25, 1, names=(2, 3))]
        for one in asked:
            found = answer(*one)
            for other in asked[::3]:
                self.expect(other, found)

    def test_of_another_number_of_names(self):
        for n, givens, goal in questions(26, 1, names=(1, 2, 3), most=0):
            found = answer(n, [], goal)
            if found[0] != "never":
                self.assertIs(holds(n + 1, [], [0] * (2 ** (n + 1) - 1), found), False)


class WrittenAnswersTest(LookerCase):
    def test_a_least_by_hand(self):
        question = (1, [([1], "=", 2)], [1])
        right = ("least", (2, 1), ([2], 1), 1, [0, 1])
        self.assertIs(self.expect(question, right), True)
        self.assertIs(self.expect(question, ("least", (4, 2), ([6], 3), 5, [0, 5])), True)
        for wrong in (
            ("least", (2, 1), ([2], 1), 0, [0, 0]),
            ("least", (2, 1), ([2], 1), -1, [0, -1]),
            ("least", (2, 0), ([2], 1), 1, [0, 1]),
            ("least", (0, 0), ([2], 1), 1, [0, 1]),
            ("least", (-2, -1), ([2], 1), 1, [0, 1]),
            ("least", (2, 1), ([-2], -1), 1, [0, 1]),
            ("least", (2, 1), ([2], 0), 1, [0, 1]),
            ("least", (2, 1), ([0], 0), 1, [0, 1]),
            ("least", (2, 1), ([4], 1), 1, [0, 1]),
            ("least", (3, 1), ([2], 1), 1, [0, 1]),
            ("least", (2, 1), ([2], 1), 1, [1, 0]),
            ("least", (2, 1), ([2], 1), 1, [-1, 2]),
            ("least", (2, 1), ([2], 1), 2, [0, 1]),
            ("least", (2, 1), ([2, 0], 1), 1, [0, 1]),
            ("least", (2, 1), ([], 1), 1, [0, 1]),
            ("least", (2, 1), ([2], 1), 1, [0, 1, 0]),
            ("least", (2, 1), ([2], 1), 1, [1]),
            ("least", (2, 1), ([2], 1), 1, []),
        ):
            self.assertIs(self.expect(question, wrong), False, wrong)

    def test_weights_below_nought(self):
        found = ("least", (-2, 1), ([2], 1), 1, [0, -1])
        self.assertIs(self.expect((1, [([1], "=", 2)], [-1]), found), True)
        self.assertIs(self.expect((1, [([1], ">", 2)], [-1]), found), False)
        self.assertIs(self.expect((1, [([1], "=", -2)], [0]), ("never", [1, -1])), True)
        self.assertIs(self.expect((1, [([1], ">", -2)], [0]), ("never", [1, -1])), False)
        self.assertIs(self.expect((1, [([1], "=", 2), ([1], "=", 3)], [0]), ("never", [0, -1, 1])), True)
        self.assertIs(self.expect((1, [([1], "=", 2), ([1], "=", 3)], [0]), ("never", [0, 1, -1])), False)
        self.assertIs(self.expect((1, [([2], "=", 2), ([1], "=", 2)], [0]), ("never", [-1, -1, 3])), False)
        self.assertIs(self.expect((1, [([-1], ">", 5)], [0]), ("never", [1, 1])), True)

    def test_other_right_weights(self):
        # A group of two names is a sum of rules in one way alone, of three names in several ones.
        goal = [0, 0, 1]
        self.assertIs(self.expect((2, [], goal), ("least", (0, 9), ([0, 0, 0], 4), 3, [3, 3, 3])), True)
        places = {rule: place for place, rule in enumerate(own_rules(3))}
        for pairs in ((("pair", 0, 1, 0), ("pair", 0, 2, 2)), (("pair", 0, 2, 0), ("pair", 0, 1, 4))):
            weights = [0] * 9
            for rule in pairs + (("last", 0),):
                weights[places[rule]] = 1
            self.assertIs(self.expect((3, [], [1] + [0] * 6), ("least", (0, 1), ([0] * 7, 1), 1, weights)), True)

    def test_an_endless_by_hand(self):
        question = (2, [([1, 0, 0], "=", 1)], [0, -1, 0])
        self.assertIs(self.expect(question, ("endless", ([1, 0, 1], 1), [0, 1, 1])), True)
        self.assertIs(self.expect(question, ("endless", ([2, 0, 2], 2), [0, FAR, FAR])), True)
        for wrong in (
            ("endless", ([1, 0, 1], 0), [0, 1, 1]),
            ("endless", ([-1, 0, -1], -1), [0, 1, 1]),
            ("endless", ([1, 0, 0], 1), [0, 1, 1]),
            ("endless", ([2, 0, 2], 1), [0, 1, 1]),
            ("endless", ([1, 0, 1], 1), [0, 0, 0]),
            ("endless", ([1, 0, 1], 1), [1, 1, 1]),
            ("endless", ([1, 0, 1], 1), [-1, 1, 1]),
            ("endless", ([1, 0, 1], 1), [0, 1, 2]),
            ("endless", ([1, 0, 1], 1), [0, 1]),
            ("endless", ([1, 0, 1], 1), [0, 1, 1, 0]),
            ("endless", ([1, 0, 1], 1), []),
        ):
            self.assertIs(self.expect(question, wrong), False, wrong)
        upward = (2, [([1, 0, 0], ">", 1)], [0, -1, 0])
        self.assertIs(self.expect(upward, ("endless", ([5, 0, 5], 2), [1, 1, 1])), True)
        self.assertIs(self.expect(upward, ("endless", ([1, 0, 1], 2), [1, 1, 1])), False)

    def test_a_never_by_hand(self):
        question = (1, [([1], "=", -3)], [1])
        self.assertIs(self.expect(question, ("never", [1, -1])), True)
        self.assertIs(self.expect(question, ("never", [FAR, -FAR])), True)
        for weights in ([-1, 1], [0, 0], [1, 0], [0, -1], [2, -1], [1, -1, 0], [1], [-1], []):
            self.assertIs(self.expect(question, ("never", weights)), False, weights)

    def test_numbers_of_many_figures(self):
        question = (1, [([1], "=", 1)], [1])
        far = 10 ** 3000
        self.assertIs(holds(*question, ("least", (far, far), ([far], far), far, [0, far])), True)
        self.assertIs(holds(*question, ("least", (far, far), ([far], far), far, [1, far - 1])), False)
        self.assertIs(holds(*question, ("least", (far + 1, far), ([far], far), far, [0, far])), False)

    def test_answers_of_chance(self):
        chance = random.Random(27)
        seen = {True: 0, False: 0}
        for _ in range(4000):
            few = lambda many: [chance.randint(-1, 2) for _ in range(many)]
            givens = [([chance.randint(-1, 1)], chance.choice("=>"), chance.randint(-1, 1)) for _ in range(2)]
            question = (1, givens, few(1))
            table = (few(1), chance.randint(0, 2))
            found = chance.choice((("least", tuple(few(2)), table, chance.randint(0, 2), few(3)),
                                   ("endless", table, few(1)), ("never", few(3))))
            seen[self.expect(question, found)] += 1
        self.assertGreater(min(seen.values()), 20)


if __name__ == "__main__":
    unittest.main()
