"""Answers, and what is told of sayings, written as texts and read back (points 38 and 39)."""

from telltight.errors import NoText

FIGURES = "0123456789"
MOST_FIGURES = 2000


def show_list(word, numbers):
    listed = " ".join([str(number) for number in numbers]) if len(numbers) > 0 else "-"
    return f"{word} {listed}"


def show_table(table):
    listed = show_list("table", table[0])
    below = table[1]
    return f"{listed} / {below}"


def show_least(found):
    top = found[1][0]
    bottom = found[1][1]
    times = found[3]
    return [f"least {top} / {bottom}", show_table(found[2]), f"times {times}", show_list("weights", found[4])]


def show_answer(found):
    if found[0] == "least":
        pieces = show_least(found)
    elif found[0] == "endless":
        pieces = ["endless", show_table(found[1]), show_list("way", found[2])]
    else:
        pieces = ["never", show_list("weights", found[1])]
    return "; ".join(pieces)


def show_paper(paper):
    if paper[0] == "never":
        return show_list("never", paper[1])
    times = paper[1]
    return show_list(f"by {times}:", paper[2])


def show_follow(found):
    if found[0]:
        pieces = ["yes"] + [show_paper(paper) for paper in found[1]]
    else:
        pieces = ["no", show_table(found[1])]
    return "; ".join(pieces)


def read_number(text):
    figures = text[1:] if text.startswith("-") else text
    if len(figures) < 1 or len(figures) > MOST_FIGURES or not all([sign in FIGURES for sign in figures]):
        raise NoText("no number")
    if figures[0] == "0" and text != "0":
        raise NoText("a 0 too many, or a - ahead of one")
    return int(text)


def read_numbers(text):
    if text == "-":
        return []
    return [read_number(word) for word in text.split(" ")]


def behind(piece, word):
    if not piece.startswith(word + " "):
        raise NoText("another word, or none, stands here")
    return piece[len(word) + 1:]


def read_list(piece, word):
    return read_numbers(behind(piece, word))


def in_two(text, sign):
    parts = text.split(sign)
    if len(parts) != 2:
        raise NoText("not two parts")
    return parts


def read_fraction(piece, word):
    parts = in_two(behind(piece, word), " / ")
    return (read_number(parts[0]), read_number(parts[1]))


def read_table(piece):
    parts = in_two(behind(piece, "table"), " / ")
    return (read_numbers(parts[0]), read_number(parts[1]))


def read_least(pieces):
    least = read_fraction(pieces[0], "least")
    times = read_number(behind(pieces[2], "times"))
    return ("least", least, read_table(pieces[1]), times, read_list(pieces[3], "weights"))


def read_answer(text):
    pieces = text.split("; ")
    if len(pieces) == 4:
        return read_least(pieces)
    if len(pieces) == 3 and pieces[0] == "endless":
        return ("endless", read_table(pieces[1]), read_list(pieces[2], "way"))
    if len(pieces) == 2 and pieces[0] == "never":
        return ("never", read_list(pieces[1], "weights"))
    raise NoText("none of the three makings of an answer")


def read_paper(piece):
    if piece.startswith("never"):
        return ("never", read_list(piece, "never"))
    parts = in_two(behind(piece, "by"), ": ")
    return ("by", read_number(parts[0]), read_numbers(parts[1]))


def read_follow(text):
    pieces = text.split("; ")
    if pieces[0] == "yes":
        return (True, [read_paper(piece) for piece in pieces[1:]])
    if len(pieces) == 2 and pieces[0] == "no":
        return (False, read_table(pieces[1]))
    raise NoText("neither yes with papers nor no with a table")
