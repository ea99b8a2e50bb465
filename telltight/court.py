"""The court: it is told lines, keeps names, a book and a heap, and answers (point 36)."""

from telltight.answertexts import read_follow, show_follow
from telltight.books import fewest, spare
from telltight.coins import coin_table, common_views, known
from telltight.errors import NoHeap, NoLine, NoPlace, NoText, TooMany
from telltight.follows import follow_holds, follows
from telltight.judge import keeps_given
from telltight.questions import answer
from telltight.ranges import range_of
from telltight.rows import MOST_NAMES
from telltight.safes import opened_by
from telltight.texts import (read_coins, read_count, read_group, read_heap, read_row, read_saying, show_group,
                             show_saying)

MOST_SAYINGS = 6
BARE = ("book", "spare", "opened")
WITH_SAYING = ("say", "does", "why", "needs", "keeps")
WITH_ROW = ("least", "range")
CHANGES = ("names", "say", "drop", "heap")
OF_HEAP = ("unsure", "knows", "common", "opened", "keeps")


def read_names(text):
    count = read_count(text, 1)
    if count > MOST_NAMES:
        raise NoText("more than four names")
    return count


def read_judged(n, text):
    parts = text.partition(": ")
    return (read_saying(n, parts[0]), read_follow(parts[2]))


def in_two_words(text):
    words = text.split(" ")
    if len(words) != 2:
        raise NoText("not two words")
    return words


def read_group_and_view(n, text):
    words = in_two_words(text)
    view = read_coins(words[1].split(",")) if words[1] != "()" else []
    return (read_group(n, words[0]), view)


def read_two_groups(n, text):
    words = in_two_words(text)
    return (read_group(n, words[0]), read_group(n, words[1]))


def read_behind(n, word, text):
    if word in WITH_SAYING:
        return read_saying(n, text)
    if word in WITH_ROW:
        return read_row(n, text)
    if word == "names":
        return read_names(text)
    if word == "drop":
        return read_count(text, 0)
    if word == "judge":
        return read_judged(n, text)
    if word == "heap":
        return read_heap(text)
    if word == "unsure":
        return read_group(n, text)
    if word == "knows":
        return read_group_and_view(n, text)
    if word == "common":
        return read_two_groups(n, text)
    raise NoText("no such word")


def read_line(n, line):
    if line in BARE:
        return (line, None)
    parts = line.partition(" ")
    try:
        return (parts[0], read_behind(n, parts[0], parts[2]))
    except NoText:
        raise NoLine("no such line") from None


def yes_or_no(truth):
    return "yes" if truth else "no"


def listed(words):
    return " ".join(words) if len(words) > 0 else "none"


def show_places(places):
    return listed([str(place) for place in places])


def show_book(n, book):
    return "; ".join([show_saying(n, saying) for saying in book]) if len(book) > 0 else "none"


def show_fraction(fraction):
    top = fraction[0]
    bottom = fraction[1]
    return f"{top}/{bottom}" if bottom > 1 else f"{top}"


def show_least(found):
    return show_fraction(found[1]) if found[0] == "least" else found[0]


def show_range(ends):
    if ends is None:
        return "never"
    return " ".join(["endless" if end is None else show_fraction(end) for end in ends])


def show_needs(found):
    return "no" if found is None else show_places(found[0])


def told_by_book(n, book, word, thing):
    if word == "book":
        return show_book(n, book)
    if word == "does":
        return yes_or_no(follows(n, book, thing)[0])
    if word == "why":
        return show_follow(follows(n, book, thing))
    if word == "judge":
        return "right" if follow_holds(n, book, thing[0], thing[1]) else "wrong"
    if word == "least":
        return show_least(answer(n, book, thing))
    if word == "range":
        return show_range(range_of(n, book, thing))
    if word == "needs":
        return show_needs(fewest(n, book, thing))
    return show_places(spare(n, book))


def told_knows(heap, group, view):
    if len(view) > 0 and view[-1] >= heap[0]:
        raise NoPlace("a coin that the heap has not")
    return yes_or_no(known(heap, group, view)[0] == "known")


def told_opened(heap):
    if len(heap[1]) < 2:
        raise NoHeap("one name has no keys")
    return listed([show_group(group) if group != 0 else "nobody" for group in opened_by(heap)])


def told_by_heap(heap, word, thing):
    if word == "opened":
        return told_opened(heap)
    if word == "knows":
        return told_knows(heap, thing[0], thing[1])
    if word == "common":
        return str(len(common_views(heap, thing[0], thing[1])))
    table = coin_table(heap)
    if word == "unsure":
        return str(table[thing - 1])
    return yes_or_no(keeps_given(thing, table, 1))


class Court:
    def __init__(self):
        self.names = MOST_NAMES
        self.book = []
        self.heap = None

    def say(self, line):
        told = read_line(self.names, line)
        if told[0] in CHANGES:
            self.change(told[0], told[1])
            return "ok"
        if told[0] not in OF_HEAP:
            return told_by_book(self.names, self.book, told[0], told[1])
        if self.heap is None:
            raise NoHeap("there is none")
        return told_by_heap(self.heap, told[0], told[1])

    def change(self, word, thing):
        if word == "names":
            self.names = thing
            self.book = []
            self.heap = None
        elif word == "say":
            self.put_in(thing)
        elif word == "drop":
            self.take_out(thing)
        else:
            self.keep_heap(thing)

    def put_in(self, saying):
        if len(self.book) >= MOST_SAYINGS:
            raise TooMany("six sayings are in the book")
        self.book = self.book + [saying]

    def take_out(self, place):
        if place >= len(self.book):
            raise NoPlace("no such saying")
        self.book = self.book[:place] + self.book[place + 1:]

    def keep_heap(self, heap):
        if len(heap[1]) != self.names:
            raise NoHeap("it has not as many names")
        self.heap = heap
