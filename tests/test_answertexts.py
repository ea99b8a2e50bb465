import copy
import random
import unittest

from asking import questions
from changing import SIGNS, with_a_sign_changed
from reading import own_read_answer, own_read_follow, same
from refusing import expect_kind
from telltight.answertexts import read_answer, read_follow, show_answer, show_follow
from telltight.errors import NoText
from telltight.follows import follow_holds, follows
from telltight.judge import holds
from telltight.questions import answer

LONG = 10 ** 2000 - 1

ANSWERS = (
    (("least", (3, 1), ([3, 2, 3], 1), 1, [0, 1, 0, 1, 0]),
     "least 3 / 1; table 3 2 3 / 1; times 1; weights 0 1 0 1 0"),
    (("least", (-7, 12), ([0, -10, 30], 4), 25, [-1]),
     "least -7 / 12; table 0 -10 30 / 4; times 25; weights -1"),
    (("least", (0, 0), ([], -5), -1, []), "least 0 / 0; table - / -5; times -1; weights -"),
    (("endless", ([3, 3, 3], 1), [0, 1, 1]), "endless; table 3 3 3 / 1; way 0 1 1"),
    (("endless", ([], 0), []), "endless; table - / 0; way -"),
    (("endless", ([-1], -2), [-3]), "endless; table -1 / -2; way -3"),
    (("never", [0, 0, 1, -1]), "never; weights 0 0 1 -1"),
    (("never", []), "never; weights -"),
    (("never", [0]), "never; weights 0"),
)
FOLLOWS = (
    ((True, []), "yes"),
    ((True, [("by", 2, [0, 1])]), "yes; by 2: 0 1"),
    ((True, [("by", 0, [])]), "yes; by 0: -"),
    ((True, [("never", [1, -1])]), "yes; never 1 -1"),
    ((True, [("never", [])]), "yes; never -"),
    ((True, [("by", -3, [-4]), ("never", [0, 0])]), "yes; by -3: -4; never 0 0"),
    ((True, [("by", 1, [5]), ("by", 1, [5])]), "yes; by 1: 5; by 1: 5"),
    ((True, [("never", [1]), ("by", 10, [5, 6]), ("never", []), ("by", 1, [])]),
     "yes; never 1; by 10: 5 6; never -; by 1: -"),
    ((False, ([1, 2, 3], 4)), "no; table 1 2 3 / 4"),
    ((False, ([], 0)), "no; table - / 0"),
    ((False, ([-1], -1)), "no; table -1 / -1"),
)


def random_number(chance):
    most = chance.choice((1, 9, 10 ** 5, 10 ** 40, 10 ** 300))
    return chance.choice((0, chance.randint(-most, most), chance.randint(-most, most)))


def random_numbers(chance):
    return [random_number(chance) for _ in range(chance.choice((0, 1, 2, 7, 30)))]


def random_answer(chance):
    table = (random_numbers(chance), random_number(chance))
    least = ("least", (random_number(chance), random_number(chance)), table, random_number(chance),
             random_numbers(chance))
    return chance.choice((least, ("endless", table, random_numbers(chance)), ("never", random_numbers(chance))))


def random_follow(chance):
    if chance.randrange(3) == 0:
        return (False, (random_numbers(chance), random_number(chance)))
    papers = []
    for _ in range(chance.choice((0, 1, 2, 5))):
        papers.append(chance.choice((("by", random_number(chance), random_numbers(chance)),
                                     ("never", random_numbers(chance)))))
    return (True, papers)


class TextsCase(unittest.TestCase):
    def expect_refused(self, function, text):
        expect_kind(self, "NoText", function, (text,))

    def expect_read(self, function, own, text):
        """It is read just as the tests' own reader reads it; told is whether it is."""
        wanted = own(text)
        if wanted is None:
            with self.assertRaises(NoText, msg=text[:300]):
                function(text)
        else:
            self.assertTrue(same(function(text), wanted), text[:300])
        return wanted is not None


class WrittenTest(TextsCase):
    def test_answers_sign_by_sign(self):
        for found, text in ANSWERS:
            self.assertEqual(show_answer(found), text)
            self.assertTrue(same(read_answer(text), found), text)

    def test_followings_sign_by_sign(self):
        for found, text in FOLLOWS:
            self.assertEqual(show_follow(found), text)
            self.assertTrue(same(read_follow(text), found), text)

    def test_many_are_read_back(self):
        chance = random.Random(81)
        for _ in range(400):
            for make, show, read in ((random_answer, show_answer, read_answer),
                                     (random_follow, show_follow, read_follow)):
                found = make(chance)
                kept = copy.deepcopy(found)
                text = show(found)
                self.assertEqual(found, kept)
                self.assertIs(type(text), str)
                self.assertTrue(same(read(text), kept), text)

    def test_numbers_of_many_figures(self):
        for number in (LONG, -LONG, LONG // 9, 10 ** 1999, -(10 ** 300)):
            found = ("least", (number, number), ([number, 0], number), number, [number])
            written = str(number)
            text = f"least {written} / {written}; table {written} 0 / {written}; times {written}; weights {written}"
            self.assertEqual(show_answer(found), text)
            self.assertEqual(read_answer(text), found)
            told = (True, [("by", number, [number, number]), ("never", [number])])
            text = f"yes; by {written}: {written} {written}; never {written}"
            self.assertEqual(show_follow(told), text)
            self.assertEqual(read_follow(text), told)

    def test_told_ones_are_looked_at_alike(self):
        for n, givens, goal in questions(82, 2):
            found = answer(n, givens, goal)
            text = show_answer(found)
            self.assertTrue(same(own_read_answer(text), found))
            read = read_answer(text)
            self.assertTrue(same(read, found))
            self.assertIs(holds(n, givens, goal, read), True)
            told = follows(n, givens, (goal, "=", 0))
            self.assertTrue(same(own_read_follow(show_follow(told)), told))
            self.assertIs(follow_holds(n, givens, (goal, "=", 0), read_follow(show_follow(told))), True)

    def test_what_does_not_hold_is_read_too(self):
        question = (1, [([1], "=", 2)], [1])
        for found in (("least", (3, 1), ([3], 1), 1, [0, 1]), ("least", (2, 0), ([2], 0), 0, []),
                      ("endless", ([2], 1), [1]), ("never", [1, 1, 1])):
            read = read_answer(show_answer(found))
            self.assertTrue(same(read, found))
            self.assertIs(holds(*question, read), False)
        for found in ((True, []), (True, [("by", 0, [0, 0])]), (False, ([3], 1)), (False, ([], 0))):
            read = read_follow(show_follow(found))
            self.assertTrue(same(read, found))
            self.assertIs(follow_holds(1, [([1], "=", 2)], ([1], "=", 2), read), False)


class RefusedTest(TextsCase):
    def test_a_sign_changed(self):
        seen = {True: 0, False: 0}
        for found, text in ANSWERS:
            for other in with_a_sign_changed(text, SIGNS):
                seen[self.expect_read(read_answer, own_read_answer, other)] += 1
        for found, text in FOLLOWS:
            for other in with_a_sign_changed(text, SIGNS):
                seen[self.expect_read(read_follow, own_read_follow, other)] += 1
        self.assertGreater(seen[True], 500)
        self.assertGreater(seen[False], 5000)

    def test_two_signs_changed(self):
        chance = random.Random(83)
        for found, text in ANSWERS + FOLLOWS:
            some = list(with_a_sign_changed(text, " -;0/"))
            for one in chance.sample(some, min(60, len(some))):
                for other in chance.sample(list(with_a_sign_changed(one, " -;0/")), 10):
                    self.expect_read(read_answer, own_read_answer, other)
                    self.expect_read(read_follow, own_read_follow, other)

    def test_a_sign_of_told_answers_changed(self):
        chance = random.Random(84)
        for n, givens, goal in questions(85, 1):
            text = show_answer(answer(n, givens, goal))
            told = show_follow(follows(n, givens, (goal, ">", 0)))
            for _ in range(40):
                for line, read, own in ((text, read_answer, own_read_answer), (told, read_follow, own_read_follow)):
                    place = chance.randrange(len(line))
                    sign = chance.choice(" -0/;:19zx~") if chance.randrange(3) else ""
                    self.expect_read(read, own, line[:place] + sign + line[place + chance.randrange(2):])

    def test_of_other_forms(self):
        both = ("", " ", "-", "0", "; ", ";", "x", "table 1 / 1", "weights 1", "never", "least", "endless", "no",
                "by 1: 1", "never 1", "yes;", "yes; ", "yes ", " yes", "Yes", "no;", "no; ", "YES", "yes; yes",
                "yes; no", "no; yes", "no; table 1 / 1; table 1 / 1", "no; never 1", "yes; table 1 / 1",
                "yes; by 1: 1;", "yes; by 1: 1; ", "; yes", "yes;by 1: 1", "yes; by 1:1", "yes; by 1 : 1",
                "yes; by: 1", "yes; by 1: ", "yes; by 1:", "yes; by : 1", "yes; by 1: 1: 1", "yes; by - : 1",
                "yes; by -: 1", "yes; never", "yes; never ", "yes; never: 1", "yes; never 1: 1", "yes; nevermore 1",
                "yes; by 1 2: 1", "no; table / 1", "no; table  / 1", "no; table 1", "no; table 1 / ",
                "no; table 1 / -", "no; table 1 / 1 / 1", "no; table 1 / 1 2", "no; table 1/1", "no; table - 1 / 1",
                "no; table 1 - / 1", "no; table -- / 1", "no; table - - / 1", "no; way 1",
                "never; weights", "never; weights ", "never; way 1", "never; weights 1; weights 1", "never 1",
                "never; weights  1", "never; weights 1  2", "never; weights 1 ", "never; weights - 1",
                "endless; table 1 / 1", "endless; way 1", "endless; way 1; table 1 / 1",
                "endless; table 1 / 1; weights 1", "endless; table 1 / 1; way 1; way 1",
                "least 1; table 1 / 1; times 1; weights 1", "least 1 / -; table 1 / 1; times 1; weights 1",
                "least - / 1; table 1 / 1; times 1; weights 1", "least 1 / 1; table 1 / 1; times -; weights 1",
                "least 1 / 1; table 1 / 1; times 1 1; weights 1", "least 1 / 1; table 1 / 1; times 1",
                "least 1 1 / 1; table 1 / 1; times 1; weights 1", "least 1 / 1 1; table 1 / 1; times 1; weights 1",
                "least 1 / 1; times 1; table 1 / 1; weights 1", "table 1 / 1; least 1 / 1; times 1; weights 1",
                "least 1 / 1; table 1 / 1; times 1; weights 1; weights 1", "least 1 / 1; table 1 / 1; weights 1",
                "least 1 / 1; table 1 / 1; times 1; way 1", "endless; table 1 / 1; times 1; weights 1",
                "least 1 / 1, table 1 / 1, times 1, weights 1", "never; table 1 / 1; times 1; weights 1",
                "yes\n", "yes; never 1\n", "never; weights 1\n", "never; weights \u0661", "yes; never \u00b2")
        for text in both:
            self.expect_refused(read_answer, text)
            self.expect_refused(read_follow, text)

    def test_one_read_as_the_other(self):
        for found, text in ANSWERS:
            self.expect_refused(read_follow, text)
        for found, text in FOLLOWS:
            self.expect_refused(read_answer, text)

    def test_pieces_in_another_order_twice_or_left_out(self):
        chance = random.Random(86)
        for found, text in ANSWERS + FOLLOWS:
            pieces = text.split("; ")
            for place, piece in enumerate(pieces):
                for others in (pieces[:place] + pieces[place + 1:], pieces[:place] + [piece] + pieces[place:],
                               pieces[place:] + pieces[:place], pieces[::-1], chance.sample(pieces, len(pieces))):
                    other = "; ".join(others)
                    self.expect_read(read_answer, own_read_answer, other)
                    self.expect_read(read_follow, own_read_follow, other)

    def test_numbers_written_otherwise(self):
        far = "1" + "0" * 2000
        for number in ("00", "01", "-0", "-00", "-01", "+1", "+0", "1.0", "1e3", "1_0", "0x1", "--1", "- 1", "1-",
                       "", " 1", "1 ", "a", "1a", far, "-" + far, "9" * 2001, "0" * 2000, "0" * 30, "1" * 20000):
            for text in (f"least {number} / 1; table 1 / 1; times 1; weights 1",
                         f"least 1 / {number}; table 1 / 1; times 1; weights 1",
                         f"least 1 / 1; table {number} / 1; times 1; weights 1",
                         f"least 1 / 1; table 1 {number} 1 / 1; times 1; weights 1",
                         f"least 1 / 1; table 1 / {number}; times 1; weights 1",
                         f"least 1 / 1; table 1 / 1; times {number}; weights 1",
                         f"least 1 / 1; table 1 / 1; times 1; weights {number}",
                         f"endless; table {number} / 1; way 1", f"endless; table 1 / {number}; way 1",
                         f"endless; table 1 / 1; way {number}", f"endless; table 1 / 1; way 1 {number} 1",
                         f"never; weights {number}", f"never; weights 1 {number}"):
                self.expect_refused(read_answer, text)
            for text in (f"yes; by {number}: 1", f"yes; by 1: {number}", f"yes; by 1: 1 {number} 1",
                         f"yes; never {number}", f"yes; never 1; never 1 {number} 1", f"no; table {number} / 1",
                         f"no; table 1 {number} 1 / 1", f"no; table 1 / {number}"):
                self.expect_refused(read_follow, text)

    def test_long_texts(self):
        for filled in ("0", "-", " ", ";", "; ", "/ ", " / ", "1 ", "yes; ", "never; ", "by 1: 1; ", "~"):
            text = (filled * 30000)[:30000]
            self.expect_refused(read_answer, text)
            self.expect_refused(read_follow, text)
            self.expect_read(read_answer, own_read_answer, ("never; weights " + text)[:30000])
            self.expect_refused(read_follow, ("no; table " + text)[:30000])
        numbers = [0, -1] * 5990
        self.assertEqual(read_answer(show_answer(("never", numbers))), ("never", numbers))
        papers = [("never", []), ("by", 1, [])] * 1400
        text = show_follow((True, papers))
        self.assertLess(len(text), 30000)
        self.assertEqual(read_follow(text), (True, papers))
        self.expect_refused(read_follow, text + ";")


class SameEachTimeTest(TextsCase):
    def test_told_lists_changed(self):
        for read, text in [(read_answer, text) for found, text in ANSWERS] + [
                (read_follow, text) for found, text in FOLLOWS]:
            first = read(text)
            kept = copy.deepcopy(first)
            for part in first:
                if isinstance(part, list):
                    part.append(1)
                elif isinstance(part, tuple) and isinstance(part[0], list):
                    part[0].append(1)
            self.assertEqual(read(text), kept)

    def test_lists_of_papers_are_apart(self):
        found = read_follow("yes; by 1: 1 2; by 1: 1 2; never -; never -")
        self.assertEqual(len({id(paper[-1]) for paper in found[1]}), 4)
        found = read_answer("least 1 / 1; table - / 1; times 1; weights -")
        self.assertIsNot(found[2][0], found[4])


if __name__ == "__main__":
    unittest.main()
