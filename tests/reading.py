"""The tests' own readers of texts, by whole forms; each tells None for a text that writes nothing of its kind."""

import re

from heaps import is_heap
from reckoning import own_rest, own_shared, own_unsure

NUMBER = "(?:0|-?[1-9][0-9]{0,1999})"
NUMBERS = f"(?:-|{NUMBER}(?: {NUMBER})*)"
TABLE = f"table ({NUMBERS}) / ({NUMBER})"
PAPER = f"(?:by {NUMBER}: {NUMBERS}|never {NUMBERS})"


def numbers_of(text):
    return [] if text == "-" else [int(word) for word in text.split(" ")]


def own_read_answer(text):
    """The answer that a text writes, by its whole form; None where it writes none."""
    least = re.fullmatch(f"least ({NUMBER}) / ({NUMBER}); {TABLE}; times ({NUMBER}); weights ({NUMBERS})", text)
    if least:
        top, bottom, numbers, below, times, weights = least.groups()
        return ("least", (int(top), int(bottom)), (numbers_of(numbers), int(below)), int(times), numbers_of(weights))
    endless = re.fullmatch(f"endless; {TABLE}; way ({NUMBERS})", text)
    if endless:
        return ("endless", (numbers_of(endless[1]), int(endless[2])), numbers_of(endless[3]))
    never = re.fullmatch(f"never; weights ({NUMBERS})", text)
    return ("never", numbers_of(never[1])) if never else None


def own_read_follow(text):
    table = re.fullmatch(f"no; {TABLE}", text)
    if table:
        return (False, (numbers_of(table[1]), int(table[2])))
    if not re.fullmatch(f"yes(?:; {PAPER})*", text):
        return None
    papers = []
    for piece in text.split("; ")[1:]:
        if piece[0] == "n":
            papers.append(("never", numbers_of(piece[6:])))
        else:
            times, numbers = piece[3:].split(": ")
            papers.append(("by", int(times), numbers_of(numbers)))
    return (True, papers)


def same(one, other):
    """Whether both are the same, their kinds too."""
    if type(one) is not type(other):
        return False
    if isinstance(one, (list, tuple)):
        return len(one) == len(other) and all(same(x, y) for x, y in zip(one, other))
    return one == other


# Points 33 to 35.

SIZE = "[1-9][0-9]{0,39}"
WHOLE = f"(?:0|-?{SIZE})"
PLAIN = f"(?:0|{SIZE})"


def own_letters(group):
    return "".join(letter for k, letter in enumerate("abcd") if group >> k & 1)


def own_read_group(n, text):
    return {own_letters(g): g for g in range(1, 2 ** n)}.get(text)


def term_form(n):
    group = "(" + "|".join(own_letters(g) for g in range(1, 2 ** n)) + ")"
    return rf"(?:({SIZE}) )?(?:h\({group}(?:\|{group})?\)|s\({group};{group}(?:\|{group})?\))"


def own_read_row(n, text):
    row = [0] * (2 ** n - 1)
    if text == "0":
        return row
    term = term_form(n)
    if not re.fullmatch(f"-?{term}(?: [+-] {term})*", text):
        return None
    for found in re.finditer(f"(-?| [+-] ){term}", text):
        sign, number, *letters = found.groups()
        a, b, c, d, e = [own_read_group(n, part) for part in letters]
        if c is None:
            one = own_rest(n, a, b) if b else own_unsure(n, a)
        else:
            one = own_shared(n, c, d, e or 0)
        often = int(number or 1) * (-1 if "-" in sign else 1)
        row = [old + often * x for old, x in zip(row, one)]
    return row


def own_read_saying(n, text):
    found = re.fullmatch(f"(.*) (>?=) ({WHOLE})", text)
    row = found and own_read_row(n, found[1])
    return (row, ">" if found[2] == ">=" else "=", int(found[3])) if row else None


def own_read_heap(text):
    view = rf"(?:\(\)|{PLAIN}(?: {PLAIN})*)"
    views = f"(?:-|{view}(?:, {view})*)"
    if not re.fullmatch(f"{PLAIN}: {views}(?: / {views})*", text):
        return None
    many, told = text.split(": ")
    found = []
    for name in told.split(" / "):
        pieces = [] if name == "-" else name.split(", ")
        found.append([[] if piece == "()" else numbers_of(piece) for piece in pieces])
    heap = (int(many), found)
    return heap if len(found) <= 4 and is_heap(heap, len(found)) else None
