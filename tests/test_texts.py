import random
import unittest
from itertools import product

from asking import FAR, number_maker
from changing import SIGNS, with_a_sign_changed
from heaps import heaps, is_heap
from owning import expect_own
from reading import own_letters, own_read_heap, own_read_row, own_read_saying, same
from reckoning import groups, own_rest, own_shared, own_unsure
from refusing import expect_kind
from telltight.errors import NoText
from telltight.texts import read_heap, read_row, read_saying, show_heap, show_row, show_saying

ROWS = (
    (1, [0], "0"),
    (1, [1], "1 h(a)"),
    (1, [-1], "-1 h(a)"),
    (1, [FAR], "9" * 40 + " h(a)"),
    (2, [2, 0, -1], "2 h(a) - 1 h(ab)"),
    (2, [0, -1, 0], "-1 h(b)"),
    (2, [-3, -20, 10], "-3 h(a) - 20 h(b) + 10 h(ab)"),
    (2, [0, 0, 0], "0"),
    (3, [1, 2, 3, 4, 5, 6, 7], "1 h(a) + 2 h(b) + 3 h(ab) + 4 h(c) + 5 h(ac) + 6 h(bc) + 7 h(abc)"),
    (4, [0] * 14 + [-FAR], "-" + "9" * 40 + " h(abcd)"),
    (4, [0] * 7 + [1, -1, 1, 0, 0, -1, 0, 1], "1 h(d) - 1 h(ad) + 1 h(bd) - 1 h(acd) + 1 h(abcd)"),
)
SAYINGS = (
    (1, ([0], "=", 0), "0 = 0"),
    (1, ([0], ">", -5), "0 >= -5"),
    (1, ([1], "=", 10), "1 h(a) = 10"),
    (2, ([2, 0, -1], ">", 0), "2 h(a) - 1 h(ab) >= 0"),
    (2, ([-1, 0, 1], "=", -FAR), "-1 h(a) + 1 h(ab) = -" + "9" * 40),
    (4, ([0] * 14 + [1], ">", FAR), "1 h(abcd) >= " + "9" * 40),
)
HEAPS = (
    ((2, [[[0]], [[1], []], [[0, 1]], []]), "2: 0 / 1, () / 0 1 / -"),
    ((0, [[]]), "0: -"),
    ((0, [[[]]]), "0: ()"),
    ((0, [[[], []], [], [[]]]), "0: (), () / - / ()"),
    ((1, [[[0], [0], []]]), "1: 0, 0, ()"),
    ((12, [[[0, 10, 11], [9]], []]), "12: 0 10 11, 9 / -"),
    ((40, [[list(range(40))], [[39]]]), "40: " + " ".join(str(k) for k in range(40)) + " / 39"),
    ((10, [[], [], [], []]), "10: - / - / - / -"),
)
# Written by hand, with forms that are read and never shown.
READ = (
    (2, "h(a)", [1, 0, 0]), (2, "-h(a)", [-1, 0, 0]), (2, "h(a|b)", [0, -1, 1]), (2, "h(ab|b)", [0, -1, 1]),
    (2, "s(a;b)", [1, 1, -1]), (2, "3 s(a;b)", [3, 3, -3]), (2, "s(a;a)", [1, 0, 0]), (2, "h(a|a)", [0, 0, 0]),
    (2, "h(a) - h(a)", [0, 0, 0]), (2, "h(a) + 2 h(a)", [3, 0, 0]), (2, "-s(a;b) + h(a)", [0, -1, 1]),
    (2, "h(ab) - 1 h(a) - 10 h(b)", [-1, -10, 1]), (3, "s(a;b|c)", [0, 0, 0, -1, 1, 1, -1]),
    (3, "-2 s(a;b|c) - 12 h(c|ab)", [0, 0, 12, 2, -2, -2, -10]), (3, "s(a;bc|c)", [0, 0, 0, -1, 1, 1, -1]),
    (4, "s(ad;bc|abcd)", [0] * 15), (4, "h(acd)", [0] * 12 + [1, 0, 0]),
)
REFUSED = (
    "", " ", "-", "+", "00", "-0", "+0", "1", "-1", "0 ", " 0", "h", "h(", "h()", "()", "a", "h(a", "ha)", "(a)",
    "0 h(a)", "01 h(a)", "00 h(a)", "-0 h(a)", "+h(a)", "+ h(a)", "+1 h(a)", "- h(a)", "- 1 h(a)", "--h(a)",
    "--1 h(a)", "-+h(a)", "1h(a)", "1  h(a)", " h(a)", "h(a) ", "1 h(a) ", "1 1 h(a)", "h(a) 1", "1 h (a)", "h( a)",
    "h(a )", "h(a)h(b)", "h(a) h(b)", "h(a)+h(b)", "h(a) +h(b)", "h(a)+ h(b)", "h(a)  + h(b)", "h(a) +  h(b)",
    "h(a) + + h(b)", "h(a) + -h(b)", "h(a) + -1 h(b)", "h(a) - -1 h(b)", "h(a) +", "h(a) + ", "h(a) -", "+ h(a) + h(b)",
    "h(a) + 0", "0 + h(a)", "0 - 0", "h(a) + 0 h(b)", "h(ba)", "h(aa)", "h(aba)", "h(A)", "H(a)", "S(a;b)", "h(e)",
    "h(a,b)", "h(a;b)", "h(a b)", "h(a|)", "h(|a)", "h(|)", "h(a|b|a)", "h(a||b)", "h(a|ba)", "h(a|0)", "h(0)",
    "s(a)", "s(a;)", "s(;a)", "s(;)", "s(a|b)", "s(a;b;a)", "s(a;b|)", "s(a;b|a|b)", "s(a|b;a)", "s(a;b|a;b)",
    "s(a;;b)", "s(ba;a)", "s(a;ba)", "s(a;b|ba)", "s(a; b)", "s(a;b |a)", "h(a))", "h((a)", "h(a)s(a;b)", "1 0",
    "1.0 h(a)", "1_0 h(a)", "1e3 h(a)", "0x1 h(a)", "1/2 h(a)", "2*h(a)", "2 * h(a)", "h(a) * 2", "a h(a)",
    "1" + "0" * 40 + " h(a)", "-1" + "0" * 40 + " h(a)", "h(a) + " + "9" * 41 + " h(b)", "h(a) = 0", "h(a) >= 0",
    "h(a)\n", "h(a)\t", "\nh(a)", "\u0661 h(a)", "\u00b2 h(a)", "h(\u0430)", "h(a) \u2212 h(b)", "h(a)\u00a0+ h(b)",
)
NUMBERS_REFUSED = ("", "-0", "00", "01", "-01", "+1", "+0", "--1", "- 1", "1 ", " 1", "1 1", "1.", "1_0", "a", "h(a)",
                   "1/2", "1" + "0" * 40, "-" + "9" * 41, "0" * 40, "\u0661", "1\n")


def random_term(n, chance):
    """A term's text without its sign."""
    a, b, c = [own_letters(chance.choice(groups(n))) for _ in range(3)]
    form = chance.choice((f"h({a})", f"h({a}|{b})", f"s({a};{b})", f"s({a};{b}|{c})"))
    number = chance.choice((None, 1, 2, 10, chance.randint(1, 99), chance.randint(1, FAR), FAR))
    return form if number is None else f"{number} {form}"


def random_text(n, chance):
    text = chance.choice(("", "-")) + random_term(n, chance)
    for _ in range(chance.choice((0, 1, 2, 5))):
        text += chance.choice((" + ", " - ")) + random_term(n, chance)
    return text


def random_rows(n, chance):
    for kind in ("small", "sparse", "upward", "far"):
        make = number_maker(chance, kind)
        yield [make() for _ in groups(n)]


class TextsCase(unittest.TestCase):
    def expect_read(self, function, own, arguments):
        """It is read just as the tests' own reader reads it; told is whether it is."""
        wanted = own(*arguments)
        if wanted is None:
            with self.assertRaises(NoText, msg=arguments):
                function(*arguments)
        else:
            self.assertTrue(same(function(*arguments), wanted), arguments)
        return wanted is not None

    def expect_signs_changed(self, function, own, ahead, text):
        seen = {True: 0, False: 0}
        for other in with_a_sign_changed(text, SIGNS):
            seen[self.expect_read(function, own, ahead + (other,))] += 1
        self.assertGreater(seen[False], 100)


class RowTest(TextsCase):
    def test_sign_by_sign(self):
        for n, row, text in ROWS:
            self.assertEqual(expect_own(self, show_row, (n, row)), text)
            self.assertTrue(same(expect_own(self, read_row, (n, text)), row), text)

    def test_many_are_read_back(self):
        chance = random.Random(301)
        for n in (1, 2, 3, 4):
            for _ in range(40):
                for row in random_rows(n, chance):
                    text = show_row(n, row)
                    self.assertIs(type(text), str)
                    self.assertEqual(own_read_row(n, text), row, text)
                    self.assertTrue(same(read_row(n, text), row), text)

    def test_each_term(self):
        for n in (1, 2, 3, 4):
            for a, b in product(groups(n), repeat=2):
                one, other = own_letters(a), own_letters(b)
                self.assertEqual(read_row(n, f"h({one})"), own_unsure(n, a))
                self.assertEqual(read_row(n, f"h({one}|{other})"), own_rest(n, a, b))
                self.assertEqual(read_row(n, f"-7 s({one};{other})"), [-7 * x for x in own_shared(n, a, b, 0)])
                for c in groups(n):
                    known = own_letters(c)
                    self.assertEqual(read_row(n, f"s({one};{other}|{known})"), own_shared(n, a, b, c))

    def test_terms_are_added_up(self):
        for n, text, row in READ:
            self.assertTrue(same(read_row(n, text), row), text)
            self.assertEqual(own_read_row(n, text), row, text)
        chance = random.Random(302)
        for n in (1, 2, 3, 4):
            for _ in range(200):
                self.assertTrue(self.expect_read(read_row, own_read_row, (n, random_text(n, chance))))

    def test_names_that_are_not_there(self):
        for n in (1, 2, 3):
            for g in groups(4):
                text = own_letters(g)
                for form in (f"h({text})", f"h(a|{text})", f"s({text};a)", f"s(a;{text})", f"s(a;a|{text})"):
                    self.assertEqual(self.expect_read(read_row, own_read_row, (n, form)), g < 2 ** n)

    def test_refused(self):
        for text in REFUSED:
            for n in (2, 3, 4):
                self.assertIsNone(own_read_row(n, text), text)
                expect_kind(self, "NoText", read_row, (n, text))
        for text in ("h(b)", "h(ab)", "s(a;b)", "h(a) + h(b)", "1 h(b)"):
            expect_kind(self, "NoText", read_row, (1, text))

    def test_a_sign_changed(self):
        for n, row, text in ROWS:
            self.expect_signs_changed(read_row, own_read_row, (n,), text)
        for n, text, row in READ:
            self.expect_signs_changed(read_row, own_read_row, (n,), text)

    def test_signs_of_chance_changed(self):
        chance = random.Random(303)
        for n in (1, 2, 3, 4):
            for _ in range(60):
                text = random_text(n, chance)
                some = list(with_a_sign_changed(text, " -+0|;)(hsab"))
                for other in chance.sample(some, min(40, len(some))):
                    self.expect_read(read_row, own_read_row, (n, other))
                    again = list(with_a_sign_changed(other, " +-1"))
                    self.expect_read(read_row, own_read_row, (n, chance.choice(again)))

    def test_forty_figures(self):
        most = "9" * 40
        self.assertEqual(read_row(2, f"{most} h(a) - {most} h(b)"), [FAR, -FAR, 0])
        self.assertEqual(read_row(1, f"-{most} h(a) - {most} h(a)"), [-2 * FAR])
        self.assertEqual(read_row(1, "1" + "0" * 39 + " h(a)"), [10 ** 39])

    def test_long_texts(self):
        chance = random.Random(304)
        for row in ([FAR] * 15, [-FAR] * 15, [chance.randint(10 ** 39, FAR) for _ in range(15)]):
            self.assertEqual(read_row(4, show_row(4, row)), row)
        for filled in ("h(a) + ", "1 ", "-", "(", " ", "0", "h(a|", "a", "+ "):
            self.expect_read(read_row, own_read_row, (2, (filled * 400)[:400]))
            self.expect_read(read_saying, own_read_saying, (2, (filled * 400)[:396] + " = 0"))
        self.assertEqual(read_row(2, " + ".join(["h(a)"] * 57)), [57, 0, 0])


class SayingTest(TextsCase):
    def test_sign_by_sign(self):
        for n, saying, text in SAYINGS:
            self.assertEqual(expect_own(self, show_saying, (n, saying)), text)
            self.assertTrue(same(expect_own(self, read_saying, (n, text)), saying), text)

    def test_many_are_read_back(self):
        chance = random.Random(311)
        for n in (1, 2, 3, 4):
            for _ in range(20):
                for row in random_rows(n, chance):
                    number = chance.choice((0, 1, -1, chance.randint(-FAR, FAR), FAR, -FAR))
                    saying = (row, chance.choice("=>"), number)
                    text = show_saying(n, saying)
                    self.assertEqual(own_read_saying(n, text), saying, text)
                    self.assertTrue(same(read_saying(n, text), saying), text)

    def test_terms_of_all_forms(self):
        chance = random.Random(312)
        for n in (1, 2, 3, 4):
            for _ in range(80):
                number = chance.choice((0, 1, -1, chance.randint(-FAR, FAR)))
                text = random_text(n, chance) + chance.choice((" = ", " >= ")) + str(number)
                self.assertTrue(self.expect_read(read_saying, own_read_saying, (n, text)))

    def test_refused(self):
        for text in REFUSED:
            for behind in (" = 0", " >= 1"):
                expect_kind(self, "NoText", read_saying, (2, text + behind))
            expect_kind(self, "NoText", read_saying, (2, "h(a)" + text))
        for number in NUMBERS_REFUSED:
            for ahead in ("h(a) = ", "0 >= ", "2 h(a) - s(a;b) >= "):
                expect_kind(self, "NoText", read_saying, (2, ahead + number))
        for sign in ("", ">", "<", "<=", "==", "=>", ">==", "> =", "=<", "!=", "= =", " =", "= ", ">= ", "\u2265"):
            expect_kind(self, "NoText", read_saying, (2, f"h(a) {sign} 0"))
        for text in ("", "=", "= 0", " = 0", ">= 0", "h(a)", "0", "h(a) =", "h(a) = ", "h(a)= 0", "h(a) =0", "h(a)=0",
                     "h(a) = 0 = 0", "h(a) >= h(b)", "0 = h(a)", "h(a)  = 0", "h(a) =  0", " h(a) = 0", "h(a) = 0 "):
            expect_kind(self, "NoText", read_saying, (2, text))

    def test_a_sign_changed(self):
        for n, saying, text in SAYINGS:
            self.expect_signs_changed(read_saying, own_read_saying, (n,), text)
        self.expect_signs_changed(read_saying, own_read_saying, (3,), "-2 s(a;b|c) + h(c|ab) >= -10")


class HeapTest(TextsCase):
    def test_sign_by_sign(self):
        for heap, text in HEAPS:
            self.assertEqual(expect_own(self, show_heap, (heap,)), text)
            self.assertTrue(same(expect_own(self, read_heap, (text,)), heap), text)

    def test_many_are_read_back(self):
        for heap in heaps(321, 40, 8, 5) + heaps(322, 8, 40, 40):
            text = expect_own(self, show_heap, (heap,))
            self.assertEqual(own_read_heap(text), heap, text)
            found = expect_own(self, read_heap, (text,))
            self.assertTrue(same(found, heap), text)
            self.assertTrue(is_heap(found, len(heap[1])))

    def test_a_sign_changed(self):
        for heap, text in HEAPS:
            self.expect_signs_changed(read_heap, own_read_heap, (), text)

    def test_signs_of_chance_changed(self):
        chance = random.Random(323)
        for heap in heaps(324, 20, 12, 4):
            some = list(with_a_sign_changed(show_heap(heap), " -,/:()0123"))
            for other in chance.sample(some, min(40, len(some))):
                self.expect_read(read_heap, own_read_heap, (other,))
                again = list(with_a_sign_changed(other, " ,/01"))
                self.expect_read(read_heap, own_read_heap, (chance.choice(again),))

    def test_refused(self):
        all_views = ", ".join(["()"] * 41)
        for text in ("", " ", ":", ": ", "-", "1", "1:", "1: ", "1 -", "1:-", "1:0", " 1: 0", "1 : 0", "1:  0", "1: 0 ",
                     "-1: -", "-0: -", "00: -", "01: 0", "+1: 0", "a: 0", ": 0", "1: 0: 0", "1: 00", "1: -0", "1: +0",
                     "2: 01", "2: 0  1", "2: 0,1", "2: 0 ,1", "2: 0,  1", "2: 0, ", "2: , 0", "2: 0,", "2: ,",
                     "2: 0 , 1", "2: 0/1", "2: 0 /1", "2: 0/ 1", "2: 0 / ", "2: / 0", "2:  / 0", "2: 0 /  / 1",
                     "2: 0  / 1", "2: 1 0", "2: 0 0", "2: 0 1 1", "2: 2", "2: 0 2", "0: 0", "1: 1", "40: 40",
                     "40: 39 40", "41: -", "41: 0", "41: 40", "100: -", "9" * 40 + ": -", "9" * 41 + ": -",
                     "2: " + "9" * 40, "2: " + "9" * 41, "1: ( )", "1: (", "1: )", "1: (0)", "1: () 0", "1: 0 ()",
                     "1: ()()", "1: --", "1: - -", "1: -, 0", "1: 0, -", "1: -, -", "1: - / - / - / - / -",
                     "1: 0 / 0 / 0 / 0 / 0", "1: " + all_views, "1: - / " + all_views, "1: 0\n", "1: \u0660", "1; 0",
                     "1: 0; 0", "1: 0|0", "2: 0.1", "1: a"):
            self.assertIsNone(own_read_heap(text), text)
            expect_kind(self, "NoText", read_heap, (text,))

    def test_the_bounds_themselves(self):
        views = ", ".join(["39"] * 40)
        text = f"40: {views} / {views} / {views} / {views}"
        self.assertEqual(read_heap(text), (40, [[[39]] * 40] * 4))
        found = expect_own(self, read_heap, (text,))
        self.assertEqual(show_heap(found), text)

    def test_long_texts(self):
        for filled in ("1: ", "0 ", "0, ", "- / ", "()", "1", ": "):
            text = (filled * 1000)[:1000]
            self.expect_read(read_heap, own_read_heap, (text,))
            self.expect_read(read_heap, own_read_heap, (("40: " + text)[:1000],))


if __name__ == "__main__":
    unittest.main()
