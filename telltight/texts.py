"""Rows, sayings and heaps written as texts and read back (points 33 to 35)."""

from telltight.answertexts import in_two, read_number
from telltight.coins import MOST_COINS, is_rising
from telltight.errors import NoText
from telltight.rows import MOST_NAMES, all_names, rest_row, shared_row
from telltight.splits import names_in

LETTERS = "abcd"
MOST_VIEWS = 40


def show_group(group):
    return "".join([LETTERS[name] for name in names_in(MOST_NAMES, group)])


def show_term(group, number):
    size = abs(number)
    letters = show_group(group)
    return f"{size} h({letters})"


def sign_ahead(number, is_first):
    if is_first:
        return "-" if number < 0 else ""
    return " - " if number < 0 else " + "


def show_row(n, row):
    shown = ""
    for group, number in enumerate(row, start=1):
        if number != 0:
            shown = shown + sign_ahead(number, shown == "") + show_term(group, number)
    return shown if shown != "" else "0"


def show_saying(n, saying):
    row = show_row(n, saying[0])
    sign = "=" if saying[1] == "=" else ">="
    number = saying[2]
    return f"{row} {sign} {number}"


def show_view(view):
    return " ".join([str(coin) for coin in view]) if len(view) > 0 else "()"


def show_views(views):
    return ", ".join([show_view(view) for view in views]) if len(views) > 0 else "-"


def show_heap(heap):
    many = heap[0]
    names = " / ".join([show_views(views) for views in heap[1]])
    return f"{many}: {names}"


def read_whole(text):
    number = read_number(text)
    if abs(number) >= 10 ** 40:
        raise NoText("a number of more than forty figures")
    return number


def read_count(text, least):
    number = read_whole(text)
    if number < least:
        raise NoText("a number that is too small here")
    return number


def read_group(n, text):
    for group in range(1, all_names(n) + 1):
        if show_group(group) == text:
            return group
    raise NoText("no group of these names")


def read_known(n, parts):
    if len(parts) > 2:
        raise NoText("known is told twice")
    return read_group(n, parts[1]) if len(parts) == 2 else 0


def read_rest(n, text):
    parts = text.split("|")
    known = read_known(n, parts)
    return rest_row(n, read_group(n, parts[0]), known)


def read_shared(n, text):
    parts = text.split("|")
    known = read_known(n, parts)
    both = in_two(parts[0], ";")
    return shared_row(n, read_group(n, both[0]), read_group(n, both[1]), known)


def read_form(n, text):
    if text.startswith("h(") and text.endswith(")"):
        return read_rest(n, text[2:-1])
    if text.startswith("s(") and text.endswith(")"):
        return read_shared(n, text[2:-1])
    raise NoText("neither h nor s of groups")


def read_term(n, sign, words):
    if len(words) == 1:
        number = sign
    elif len(words) == 2:
        number = sign * read_count(words[0], 1)
    else:
        raise NoText("no term")
    return [number * x for x in read_form(n, words[-1])]


def signed_terms(text):
    # Terms have blanks in them, too; a + or - that stands by itself is between two of them.
    signs = [-1 if text.startswith("-") else 1]
    terms = [[]]
    for word in (text[1:] if signs[0] == -1 else text).split(" "):
        if word == "+" or word == "-":
            signs.append(1 if word == "+" else -1)
            terms.append([])
        else:
            terms[-1].append(word)
    return list(zip(signs, terms))


def read_row(n, text):
    row = [0] * all_names(n)
    if text == "0":
        return row
    for sign, words in signed_terms(text):
        row = [old + number for old, number in zip(row, read_term(n, sign, words))]
    return row


def read_sign(word):
    if word == "=":
        return "="
    if word == ">=":
        return ">"
    raise NoText("neither = nor >=")


def read_saying(n, text):
    words = text.split(" ")
    if len(words) < 3:
        raise NoText("no saying")
    return (read_row(n, " ".join(words[:-2])), read_sign(words[-2]), read_whole(words[-1]))


def read_coins(words):
    coins = [read_count(word, 0) for word in words]
    if not is_rising(coins):
        raise NoText("coins that do not rise")
    return coins


def read_view(many, text):
    view = read_coins(text.split(" ")) if text != "()" else []
    if len(view) > 0 and view[-1] >= many:
        raise NoText("a coin that is not there")
    return view


def read_views(many, text):
    if text == "-":
        return []
    views = [read_view(many, piece) for piece in text.split(", ")]
    if len(views) > MOST_VIEWS:
        raise NoText("more than forty views of a name")
    return views


def read_heap(text):
    parts = in_two(text, ": ")
    many = read_count(parts[0], 0)
    views = [read_views(many, piece) for piece in parts[1].split(" / ")]
    if many > MOST_COINS or len(views) > MOST_NAMES:
        raise NoText("more than forty coins, or than four names")
    return (many, views)
