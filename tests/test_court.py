import random
import re
import unittest
from collections import Counter

from changing import SIGNS, with_a_sign_changed
from heaps import own_coin_table, own_knows, random_heap
from opening import own_opened
from reading import PLAIN, own_letters, own_read_follow, own_read_group, own_read_heap, own_read_row, own_read_saying
from reckoning import groups, own_keeps_given, own_rules
from refusing import expect_kind
from telltight.answertexts import show_follow
from telltight.books import fewest, spare
from telltight.court import Court
from telltight.follows import follow_holds, follows
from telltight.four import four_row
from telltight.questions import answer
from telltight.ranges import range_of
from telltight.texts import show_heap, show_row, show_saying

FORTY = "9" * 40
FORTY_ONE = "1" + "0" * 40


def own_count(text):
    return int(text) if re.fullmatch(PLAIN, text) else None


def own_names(n, text):
    return int(text) if text in ("1", "2", "3", "4") else None


def own_judged(n, text):
    for place in range(len(text)):
        if text[place:place + 2] == ": ":
            saying, told = own_read_saying(n, text[:place]), own_read_follow(text[place + 2:])
            if saying and told:
                return saying, told
    return None


def own_group_and_view(n, text):
    found = re.fullmatch(rf"([a-d]+) (\(\)|{PLAIN}(?:,{PLAIN})*)", text)
    group = found and own_read_group(n, found[1])
    if not group:
        return None
    view = [] if found[2] == "()" else [int(word) for word in found[2].split(",")]
    return (group, view) if view == sorted(set(view)) else None


def own_two_groups(n, text):
    found = re.fullmatch("([a-d]+) ([a-d]+)", text)
    both = found and (own_read_group(n, found[1]), own_read_group(n, found[2]))
    return both if both and all(both) else None


READERS = {
    "names": own_names, "drop": lambda n, text: own_count(text), "judge": own_judged,
    "say": own_read_saying, "does": own_read_saying, "why": own_read_saying, "needs": own_read_saying,
    "keeps": own_read_saying, "least": own_read_row, "range": own_read_row,
    "heap": lambda n, text: own_read_heap(text), "unsure": own_read_group, "knows": own_group_and_view,
    "common": own_two_groups,
}


def own_fraction(fraction):
    top, bottom = fraction
    return str(top) if bottom == 1 else f"{top}/{bottom}"


def own_words(words):
    return " ".join(str(word) for word in words) or "none"


class Refused(Exception):
    pass


class OwnCourt:
    """Point 36 by the tests' own readers and by the functions of the other modules."""

    def __init__(self):
        self.names, self.book, self.heap = 4, [], None

    def say(self, line):
        if line in ("book", "spare", "opened"):
            return getattr(self, "do_" + line)()
        word, blank, rest = line.partition(" ")
        thing = READERS[word](self.names, rest) if word in READERS and blank else None
        if thing is None:
            raise Refused("NoLine")
        return getattr(self, "do_" + word)(thing)

    def do_names(self, count):
        self.names, self.book, self.heap = count, [], None
        return "ok"

    def do_say(self, saying):
        if len(self.book) == 6:
            raise Refused("TooMany")
        self.book.append(saying)
        return "ok"

    def do_drop(self, place):
        if place >= len(self.book):
            raise Refused("NoPlace")
        self.book.pop(place)
        return "ok"

    def do_book(self):
        return "; ".join(show_saying(self.names, saying) for saying in self.book) or "none"

    def do_does(self, saying):
        return "yes" if follows(self.names, self.book, saying)[0] else "no"

    def do_why(self, saying):
        return show_follow(follows(self.names, self.book, saying))

    def do_judge(self, both):
        return "right" if follow_holds(self.names, self.book, *both) else "wrong"

    def do_least(self, row):
        found = answer(self.names, self.book, row)
        return own_fraction(found[1]) if found[0] == "least" else found[0]

    def do_range(self, row):
        ends = range_of(self.names, self.book, row)
        if ends is None:
            return "never"
        return " ".join("endless" if end is None else own_fraction(end) for end in ends)

    def do_needs(self, saying):
        found = fewest(self.names, self.book, saying)
        return "no" if found is None else own_words(found[0])

    def do_spare(self):
        return own_words(spare(self.names, self.book))

    def do_heap(self, heap):
        if len(heap[1]) != self.names:
            raise Refused("NoHeap")
        self.heap = heap
        return "ok"

    def table(self):
        if self.heap is None:
            raise Refused("NoHeap")
        return own_coin_table(self.heap)

    def do_unsure(self, group):
        return str(self.table()[group - 1])

    def do_knows(self, both):
        self.table()
        if any(coin >= self.heap[0] for coin in both[1]):
            raise Refused("NoPlace")
        return "yes" if own_knows(self.heap, *both) else "no"

    def do_common(self, both):
        a, b = both
        table = self.table()
        return str(table[a - 1] + table[b - 1] - table[(a | b) - 1])

    def do_opened(self):
        self.table()
        if self.names == 1:
            raise Refused("NoHeap")
        return own_words([own_letters(group) or "nobody" for group in own_opened(self.heap)])

    def do_keeps(self, saying):
        return "yes" if own_keeps_given(saying, self.table()) else "no"


def told_or_refused(court, line):
    """(True, what it answers) or (False, the name of the refusal)."""
    try:
        return (True, court.say(line))
    except Refused as refusal:
        return (False, str(refusal))
    except ValueError as refusal:
        return (False, type(refusal).__name__)


def random_row_text(n, chance):
    letters = [own_letters(chance.choice(groups(n))) for _ in range(3)]
    one, other, known = letters
    plain = (f"h({one})", f"h({one}|{other})", f"s({one};{other})", f"s({one};{other}|{known})", f"2 h({one})",
             f"-h({one})", f"-s({one};{other}|{known})", f"h({one}) - h({other})", f"h({one}) + 3 h({other}|{known})")
    return chance.choice(plain) if chance.randrange(20) else "0"


def random_saying_text(n, chance):
    return random_row_text(n, chance) + chance.choice((" = ", " >= ")) + str(chance.choice((0, 0, 1, 2, 2, -1, 7)))


def random_line(own, chance):
    """A line that is none too seldom told rightly, by what the court keeps."""
    n = own.names
    word = chance.choice(("say", "say", "say", "say", "drop", "book", "does", "why", "judge", "least", "least", "range",
                          "needs", "spare", "heap", "heap", "unsure", "knows", "knows", "common", "opened", "keeps"))
    if chance.randrange(40) == 0:
        return f"names {chance.randint(1, 4)}"
    if word in ("book", "spare", "opened"):
        return word
    if word == "drop":
        return f"drop {chance.randint(0, 5)}"
    if word in ("least", "range"):
        return f"{word} {random_row_text(n, chance)}"
    if word == "heap":
        return "heap " + show_heap(random_heap(chance.choice((n, n, n, 1, 2)), chance.choice((0, 3, 5)), 3, chance))
    a, b = [own_letters(chance.choice(groups(n))) for _ in range(2)]
    if word == "unsure":
        return f"unsure {a}"
    if word == "common":
        return f"common {a} {b}"
    if word == "knows":
        view = sorted(chance.sample(range(6), chance.choice((0, 1, 1, 2, 3))))
        return f"knows {a} " + (",".join(str(coin) for coin in view) or "()")
    saying = random_saying_text(n, chance)
    if word == "judge":
        other = saying if chance.randrange(2) else random_saying_text(n, chance)
        return f"judge {saying}: " + show_follow(follows(n, own.book, own_read_saying(n, other)))
    return f"{word} {saying}"


class CourtCase(unittest.TestCase):
    def expect(self, court, pairs):
        for line, told in pairs:
            self.assertEqual(court.say(line), told, line)

    def expect_refused(self, court, name, line):
        expect_kind(self, name, court.say, (line,))

    def expect_same(self, court, own, line):
        wanted = told_or_refused(own, line)
        found = told_or_refused(court, line)
        self.assertEqual(found, wanted, line[:300])
        self.assertIs(type(found[1]), str)
        return wanted


class LinesTest(CourtCase):
    def test_the_book(self):
        court = Court()
        self.expect(court, (
            ("book", "none"), ("spare", "none"), ("does h(a) >= 0", "yes"), ("does h(a) >= 1", "no"),
            ("say h(a) = 3", "ok"), ("say s(a;b) >= 1", "ok"), ("say -2 h(b|a) + h(a) >= -7", "ok"),
            ("book", "1 h(a) = 3; 1 h(a) + 1 h(b) - 1 h(ab) >= 1; 3 h(a) - 2 h(ab) >= -7"),
            ("does h(b) >= 1", "yes"), ("needs h(b) >= 1", "1"), ("needs h(b) >= 0", "none"), ("needs h(b) = 1", "no"),
            ("needs h(b) + h(a) >= 4", "0 1"), ("drop 0", "ok"),
            ("book", "1 h(a) + 1 h(b) - 1 h(ab) >= 1; 3 h(a) - 2 h(ab) >= -7"), ("drop 1", "ok"),
            ("book", "1 h(a) + 1 h(b) - 1 h(ab) >= 1"), ("drop 0", "ok"), ("book", "none"),
        ))

    def test_questions(self):
        court = Court()
        self.expect(court, (
            ("names 2", "ok"), ("least h(a)", "0"), ("least -h(a)", "endless"), ("range h(a)", "0 endless"),
            ("range -h(a)", "endless 0"), ("range h(a) - h(b)", "endless endless"), ("range 0", "0 0"),
            ("say 2 h(a) = 3", "ok"), ("least h(a)", "3/2"), ("least -h(a)", "-3/2"), ("least 2 h(a)", "3"),
            ("least -2 h(a)", "-3"), ("least h(a|b)", "0"), ("range s(a;b)", "0 3/2"), ("range -s(a;b)", "-3/2 0"),
            ("least h(b)", "0"), ("range h(ab)", "3/2 endless"), ("say 3 h(b) = 4", "ok"), ("range h(ab)", "3/2 17/6"),
            ("say h(a) = 2", "ok"), ("least h(a)", "never"), ("range h(a)", "never"), ("least 0", "never"),
            ("does h(a) = 5", "yes"), ("needs h(a) = 5", "0 2"), ("spare", "1"), ("drop 2", "ok"), ("spare", "none"),
            ("say h(a) >= 1", "ok"), ("say h(b) >= 1", "ok"), ("spare", "2 3"),
        ))

    def test_why_and_judge(self):
        court = Court()
        self.expect(court, (
            ("names 2", "ok"), ("say h(a) = 3", "ok"),
            ("why h(ab) >= 3", "yes; by 1: 0 1 0 1"), ("why h(a) >= 4", "no; table 3 0 3 / 1"),
            ("judge h(ab) >= 3: yes; by 1: 0 1 0 1", "right"), ("judge h(ab) >= 3: yes; by 2: 0 2 0 2", "right"),
            ("judge h(ab) >= 3: yes; by 1: 0 1 0 2", "wrong"), ("judge h(ab) >= 3: yes", "wrong"),
            ("judge h(ab) >= 3: yes; by 1: 0 1 0 1; by 1: 0 1 0 1", "wrong"), ("judge h(ab) >= 3: yes; by 0: -",
                                                                               "wrong"),
            ("judge h(a) >= 4: no; table 6 0 6 / 2", "right"), ("judge h(a) >= 4: no; table 3 0 2 / 1", "wrong"),
            ("judge h(a) >= 4: no; table - / 0", "wrong"), ("judge h(a) >= 3: no; table 3 0 3 / 1", "wrong"),
            ("judge h(a) = 3: yes; by 1: 0 0 0 1; by 1: 0 0 0 -1", "right"), ("say h(a) = 4", "ok"),
            ("judge h(b) = 9: yes; never 0 0 0 -1 1; never 0 0 0 -1 1", "right"),
            ("judge h(b) = 9: yes; never 0 0 0 1 -1; never 0 0 0 -1 1", "wrong"),
        ))

    def test_the_heap(self):
        court = Court()
        self.expect(court, (
            ("heap 3: 0 / 1, () / 0 1 / -", "ok"), ("unsure a", "1"), ("unsure abcd", "2"), ("unsure d", "0"),
            ("knows ab 0,1", "yes"), ("knows a 0,1", "no"), ("knows d ()", "yes"), ("knows abc 2", "no"),
            ("common ab c", "1"), ("common a b", "0"), ("common ab ab", "2"), ("opened", "bc"),
            ("keeps h(a) = 1", "yes"), ("keeps h(abcd) >= 3", "no"), ("keeps s(a;b|c) = 1", "yes"),
            ("heap 0: () / - / - / -", "ok"), ("opened", "nobody"), ("unsure abcd", "0"),
            ("heap 1: 0 / - / - / -", "ok"), ("opened", "none"),
            ("heap 1: 0 / 0 / - / 0", "ok"), ("opened", "b d"), ("book", "none"),
            ("names 4", "ok"),
        ))
        self.expect_refused(court, "NoHeap", "opened")

    def test_names_empty_the_book_and_the_heap(self):
        court = Court()
        self.expect(court, (("say h(d) = 1", "ok"), ("heap 0: - / - / - / -", "ok"), ("unsure d", "0"), ("names 4",
                                                                                                         "ok"),
                            ("book", "none")))
        self.expect_refused(court, "NoHeap", "unsure d")
        for n in (1, 2, 3, 4):
            self.assertEqual(court.say(f"names {n}"), "ok")
            for g in groups(4):
                line = f"say h({own_letters(g)}) >= 0"
                if g < 2 ** n:
                    self.assertEqual(court.say(line), "ok")
                    self.assertEqual(court.say("drop 0"), "ok")
                else:
                    self.expect_refused(court, "NoLine", line)

    def test_four_names_at_first(self):
        court = Court()
        self.assertEqual(court.say("does h(abcd) >= 0"), "yes")
        row = show_row(4, four_row(0, 1, 2, 3))
        self.assertEqual(court.say(f"does {row} >= 0"), "no")
        self.assertEqual(court.say("heap 4: 0 / 0 1 / 1 2, 3 / 3"), "ok")
        self.assertEqual(court.say(f"keeps {row} >= 0"), "yes")
        self.assertEqual(court.say(f"least {row}"), "endless")
        self.assertEqual(court.say("say h(abcd) = 4"), "ok")
        self.assertEqual(court.say(f"least {row}"), "-1")

    def test_numbers_of_forty_figures(self):
        court = Court()
        self.expect(court, (
            ("names 1", "ok"), (f"say h(a) = {FORTY}", "ok"), (f"book", f"1 h(a) = {FORTY}"), ("least h(a)", FORTY),
            (f"say {FORTY} h(a) >= -{FORTY}", "ok"), ("least -7 h(a)", str(-7 * int(FORTY))), ("spare", "1"),
        ))


class ModelTest(CourtCase):
    def walk(self, seed, lines, names):
        """A court and the tests' own one are told the same lines, some of them changed."""
        chance = random.Random(seed)
        court, own = Court(), OwnCourt()
        seen = Counter()
        for _ in range(lines):
            if own.names not in names:
                self.expect_same(court, own, f"names {chance.choice(names)}")
            line = random_line(own, chance)
            how = chance.randrange(8)
            if how == 0:
                place = chance.randrange(len(line) + 1)
                line = line[:place] + chance.choice(" ,:;-01abe()") + line[place + chance.randrange(2):]
            elif how == 1:
                place = chance.randrange(len(line))
                line = line[:place] + line[place + 1:]
            elif how == 2:
                line = line.replace(" ", "  ", 1) if chance.randrange(2) else chance.choice((" " + line, line + " "))
            truth, told = self.expect_same(court, own, line)
            seen[line.split(" ")[0] if truth else told] += 1
        return seen

    def test_of_one_to_three_names(self):
        seen = Counter()
        for seed in range(10):
            seen += self.walk(600 + seed, 250, (1, 2, 3))
        for word in list(READERS) + ["book", "spare", "opened", "NoLine", "NoHeap", "NoPlace", "TooMany"]:
            self.assertGreater(seen[word], 5, (word, seen))

    def test_of_four_names(self):
        self.walk(611, 500, (4,))

    def test_two_courts_beside_one_another(self):
        chance = random.Random(612)
        courts = [(Court(), OwnCourt()) for _ in range(3)]
        for court, own in courts:
            self.expect_same(court, own, "names 2")
        for _ in range(300):
            court, own = chance.choice(courts)
            self.expect_same(court, own, random_line(own, chance).replace("names", "heap"))
            for court, own in courts:
                self.expect_same(court, own, "book")
                self.expect_same(court, own, "unsure ab")


class RefusedTest(CourtCase):
    def kept_court(self):
        court = Court()
        for line in ("names 3", "say h(a) = 3", "say h(b) >= 1", "heap 3: 0 / 1, () / 0 1"):
            court.say(line)
        return court

    def expect_kept(self, court, line):
        """The court of kept_court has stayed as it was."""
        for asked, told in (("book", "1 h(a) = 3; 1 h(b) >= 1"), ("unsure abc", "2"), ("unsure c", "1"),
                            ("knows abc 2", "no"), ("opened", "bc"), ("least h(abc)", "3")):
            self.assertEqual(court.say(asked), told, line)

    def expect_all_refused(self, name, lines):
        court = self.kept_court()
        for line in lines:
            self.expect_refused(court, name, line)
            self.expect_kept(court, line)

    def test_lines_that_are_none(self):
        self.expect_all_refused("NoLine", (
            "", " ", "  ", "x", "names", "names ", "say", "say ", "drop", "drop ", "does", "why", "judge", "least",
            "least ", "range", "needs", "heap", "heap ", "unsure", "unsure ", "knows", "knows ", "common", "keeps",
            "Book", "BOOK", "book ", " book", "book book", "book 0", "book  ", "spare ", " spare", "spare 0",
            "opened ", " opened", "opened a", "names  2", "names 2 ", " names 2", "names 2 2", "names two", "names 0",
            "names 5", "names 01", "names 04", "names -1", "names +2", "names 10", f"names {FORTY}",
            f"names {FORTY_ONE}", "names 2.0", "Names 2", "name 2", "names2", "names\t2", "names 2\n", "say h(d) = 0",
            "say h(a)", "say h(a) > 0", "say h(a) = 0 ", "say  h(a) = 0", " say h(a) = 0", "say h(a) = 00",
            "say h(a) = -0", "say h(a) = h(b)", f"say h(a) = {FORTY_ONE}", "say h(a) = 0; h(b) = 0", "say 0 h(a) = 0",
            "says h(a) = 0", "say: h(a) = 0", "drop 01", "drop 00", "drop -0", "drop -1", "drop +1", "drop a",
            "drop 0 ", "drop  0", " drop 0", "drop 0 1", f"drop {FORTY_ONE}", "drop h(a) = 3", "does h(a)",
            "does h(d) = 0", "does h(a) = 0 0", "why h(a)", "why yes", "least h(d)", "least h(a) = 0", "least",
            "least  h(a)", "least h(a) ", "least 1", "least -0", "least a", "range h(d)", "range  h(a)",
            "range h(a) >= 0", "needs h(a)", "needs", "needs 0", "heap", "heap 1", "heap 1:", "heap 1: 1 / - / -",
            "heap 2: 1 0 / - / -", "heap 2: 0 0 / - / -", "heap 41: - / - / -", "heap  0: - / - / -",
            "heap 0: - / - / - ", "heap 0: - / - / - / - / -", "heap 1: 0, - / - / -", "heap none",
            "heap 01: - / - / -", "unsure d", "unsure abcd", "unsure ba", "unsure aa", "unsure A", "unsure 1",
            "unsure a b", "unsure  a", "unsure a ", "unsure h(a)", "unsure nobody", "unsure 0", "knows a", "knows a ",
            "knows  a 0", "knows a  0", "knows a 0 ", "knows a 0 1", "knows a 1,0", "knows a 0,0", "knows a 0,1,1",
            "knows a 0,", "knows a ,0", "knows a 0,,1", "knows a 0, 1", "knows a ,", "knows a 01", "knows a -1",
            "knows a -0", "knows a +1", f"knows a {FORTY_ONE}", f"knows a 0,{FORTY_ONE}", "knows a (0)",
            "knows a ( )", "knows a (),0", "knows a 0,()", "knows a -", "knows d 0", "knows ba 0", "knows 0 a",
            "knows 0", "knows () a", "knows a 9,8", "common a", "common a ", "common  a b", "common a  b",
            "common a b ", "common a b c", "common a d", "common d a", "common ba c", "common a,b", "common",
            "keeps h(a)", "keeps h(d) = 0", "keeps", "keeps  h(a) = 0", "keeps yes", "judge h(a) = 3",
            "judge h(a) = 3:", "judge h(a) = 3: ", "judge h(a) = 3:yes", "judge h(a) = 3 : yes",
            "judge h(a) = 3:  yes", "judge h(a) = 3: yes ", "judge h(a) = 3: maybe", "judge h(d) = 3: yes",
            "judge : yes", "judge yes", "judge h(a): yes", "judge h(a) = 3: yes; by 1: 01",
            "judge h(a) = 3: yes; by 1", "judge  h(a) = 3: yes",
            "judge h(a) = 3: least 3 / 1; table 3 3 3 3 3 3 3 / 1; times 1; weights 1", "judge h(a) = 3: no",
            "judge h(a) = 3: no; table 1", "judge h(a) = 3: yes; never; 1", "judge h(a) = 3: never; weights 1", "ok",
            "yes", "none", "h(a) = 3", "help", "quit", "sayh(a) = 0", "say\nh(a) = 0", "names \u0662",
        ))

    def test_a_sign_changed(self):
        court = self.kept_court()
        own = OwnCourt()
        for line in ("names 3", "say h(a) = 3", "say h(b) >= 1", "heap 3: 0 / 1, () / 0 1"):
            own.say(line)
        seen = Counter()
        for line in ("book", "spare", "opened", "unsure ab", "knows ab 0,1", "knows c ()", "common ab c", "drop 1",
                     "names 2", "keeps h(a) >= 2", "does h(a) = 3", "judge h(a) = 3: yes", "least h(a|b)", "range h(a)",
                     "heap 1: 0 / - / ()", "say h(a) = 1", "needs h(a) = 3", "why h(b) >= 1"):
            for other in with_a_sign_changed(line, SIGNS if len(line) < 12 else " ,:-019abce()x"):
                # Lines that change something are told to both, and then all is set as before.
                truth, told = self.expect_same(court, own, other)
                seen[truth] += 1
                if truth and told == "ok":
                    for again in ("names 3", "say h(a) = 3", "say h(b) >= 1", "heap 3: 0 / 1, () / 0 1"):
                        self.expect_same(court, own, again)
            self.expect_kept(court, line)
        self.assertGreater(min(seen[True], seen[False]), 300, seen)

    def test_a_seventh_saying(self):
        court = Court()
        for k in range(6):
            self.assertEqual(court.say(f"say h(a) >= {k}"), "ok")
        book = court.say("book")
        self.assertEqual(book.count("; "), 5)
        for line in ("say h(a) >= 6", "say h(a) >= 0", "say 0 = 0"):
            self.expect_refused(court, "TooMany", line)
            self.assertEqual(court.say("book"), book)
        for line in ("say h(a)", "say h(e) >= 0", "say  h(a) >= 6", "say h(a) >= 06"):
            self.expect_refused(court, "NoLine", line)
        self.expect(court, (("drop 2", "ok"), ("say h(b) >= 6", "ok")))
        self.assertEqual(court.say("book"),
                         "1 h(a) >= 0; 1 h(a) >= 1; 1 h(a) >= 3; 1 h(a) >= 4; 1 h(a) >= 5; 1 h(b) >= 6")
        self.expect_refused(court, "TooMany", "say h(c) >= 6")

    def test_places_that_are_not_there(self):
        self.expect_all_refused("NoPlace", ("drop 2", "drop 3", "drop 5", "drop 10", f"drop {FORTY}"))
        court = Court()
        self.expect_refused(court, "NoPlace", "drop 0")
        self.expect_refused(court, "NoLine", "drop 00")
        court.say("say h(a) = 0")
        self.expect_refused(court, "NoPlace", "drop 1")
        self.assertEqual(court.say("drop 0"), "ok")
        self.expect_refused(court, "NoPlace", "drop 0")

    def test_coins_that_are_not_there(self):
        self.expect_all_refused("NoPlace", ("knows a 3", "knows abc 0,3", "knows c 40", f"knows a {FORTY}",
                                            f"knows a 0,1,{FORTY}"))
        court = Court()
        court.say("heap 0: - / - / - / -")
        self.expect_refused(court, "NoPlace", "knows a 0")
        self.assertEqual(court.say("knows a ()"), "yes")
        self.expect_refused(court, "NoLine", "knows a 1,0")

    def test_where_there_is_no_heap(self):
        for n in (1, 2, 3, 4):
            court = Court()
            court.say(f"names {n}")
            for line in ("unsure a", "knows a 0", "knows a ()", f"knows a 0,{FORTY}", "common a a", "opened",
                         "keeps h(a) = 0", "keeps 0 = 0"):
                self.expect_refused(court, "NoHeap", line)
            for line in ("unsure e", "knows a 1,0", "knows e 0", f"knows a {FORTY_ONE}", "common a", "opened a",
                         "keeps h(e) = 0", "knows a", "keeps h(a)"):
                self.expect_refused(court, "NoLine", line)

    def test_heaps_of_other_names(self):
        self.expect_all_refused("NoHeap", ("heap 3: 0 / 1", "heap 0: -", "heap 0: - / - / - / -",
                                           "heap 1: 0 / 0 / 0 / 0"))
        for n in (1, 2, 3, 4):
            court = Court()
            court.say(f"names {n}")
            for many in (1, 2, 3, 4):
                line = "heap 1: " + " / ".join(["0"] * many)
                if many == n:
                    self.assertEqual(court.say(line), "ok")
                else:
                    self.expect_refused(court, "NoHeap", line)
                    self.expect_refused(court, "NoLine", line + ", 1")
            self.assertEqual(court.say("unsure a"), "1")

    def test_opened_with_one_name(self):
        court = Court()
        court.say("names 1")
        self.expect_refused(court, "NoHeap", "opened")
        self.assertEqual(court.say("heap 1: 0"), "ok")
        self.expect_refused(court, "NoHeap", "opened")
        self.expect_refused(court, "NoLine", "opened ")
        self.assertEqual(court.say("unsure a"), "1")
        self.expect(court, (("knows a 0", "yes"), ("common a a", "1"), ("keeps h(a) = 1", "yes")))

    def test_a_refused_heap_leaves_the_one_before(self):
        court = self.kept_court()
        for line in ("heap 3: 0 / 1", "heap 3: 3 / - / -", "heap x"):
            told_or_refused(court, line)
            self.expect_kept(court, line)

    def test_long_lines(self):
        court = Court()
        sum_of_many = " + ".join(["h(a)"] * 2800)
        self.assertLess(len(sum_of_many), 19990)
        self.assertEqual(court.say(f"does {sum_of_many} >= 0"), "yes")
        self.assertEqual(court.say(f"say {sum_of_many} = 0"), "ok")
        self.assertEqual(court.say("book"), "2800 h(a) = 0")
        numbers = " ".join(["0"] * 9900)
        self.assertEqual(court.say(f"judge h(a) = 0: yes; never {numbers}"), "wrong")
        for line in ("x" * 20000, " " * 20000, "say " * 5000, "0" * 20000, "knows a " + "0," * 9000,
                     "drop " + "1" * 19000,
                     "names " + "1" * 19000, "say h(a) = " + "9" * 19000, "heap " + "1" * 19000,
                     "least " + "h(a) + " * 2800, "judge h(a) = 0: yes; by 1: " + "1" * 19000):
            self.expect_refused(court, "NoLine", line)
        self.assertEqual(court.say("book"), "2800 h(a) = 0")


class WhyTest(CourtCase):
    def test_what_it_tells_is_judged_right(self):
        chance = random.Random(621)
        for n in (1, 2, 3, 4):
            court = Court()
            court.say(f"names {n}")
            for _ in range(3):
                told_or_refused(court, "say " + random_saying_text(n, chance))
            for _ in range(10):
                saying = random_saying_text(n, chance)
                told = court.say(f"why {saying}")
                self.assertEqual(told.startswith("yes"), court.say(f"does {saying}") == "yes")
                self.assertEqual(court.say(f"judge {saying}: {told}"), "right")
                self.assertEqual(told.startswith("yes"), court.say(f"needs {saying}") != "no")

    def test_rules_are_kept_by_heaps(self):
        chance = random.Random(622)
        for n in (2, 3, 4):
            court = Court()
            court.say(f"names {n}")
            court.say("heap " + show_heap(random_heap(n, 6, 3, chance)))
            for word, i, j, g in [rule for rule in own_rules(n) if rule[0] == "pair"]:
                known = f"|{own_letters(g)}" if g else ""
                saying = f"s({own_letters(2 ** i)};{own_letters(2 ** j)}{known}) >= 0"
                self.expect(court, ((f"does {saying}", "yes"), (f"keeps {saying}", "yes"), (f"needs {saying}", "none")))


if __name__ == "__main__":
    unittest.main()
