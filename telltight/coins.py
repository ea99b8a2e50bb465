"""Heaps of coins, what groups see of them and know by that (points 19 to 23).

A view is reckoned with as a whole number whose bit k is 1 where the coin k is in it: two
views together are then the bits that differ, as a coin that is in both counts twice.

Lines are tuples (lead, mask, made), by which such numbers are told apart: each line has
its lead, a bit that no other line's mask has; made tells what the mask was made of, put
together in the same way.
"""

from telltight.rows import all_names
from telltight.splits import names_in

MOST_COINS = 40


def views_of(heap, g):
    found = []
    for name in names_in(len(heap[1]), g):
        found.extend(heap[1][name])
    return found


def places_of(heap, g):
    found = []
    for name in names_in(len(heap[1]), g):
        found.extend([(name, number) for number in range(len(heap[1][name]))])
    return found


def seen(heap, g, faces):
    return [sum([faces[coin] for coin in view]) % 2 for view in views_of(heap, g)]


def mask_of(view):
    return sum([1 << coin for coin in view])


def less_lines(lines, mask, made):
    for lead, other, how in lines:
        if mask & lead != 0:
            mask = mask ^ other
            made = made ^ how
    return (mask, made)


def with_line(lines, mask, made):
    # The mask has no lead of a line in it, and is not empty.
    lead = 1 << (mask.bit_length() - 1)
    changed = []
    for other, there, how in lines:
        if there & lead != 0:
            changed.append((other, there ^ mask, how ^ made))
        else:
            changed.append((other, there, how))
    return changed + [(lead, mask, made)]


def lines_of(views):
    # What a line is made of is told by places in the list of views.
    lines = []
    for place, view in enumerate(views):
        left = less_lines(lines, mask_of(view), 1 << place)
        if left[0] != 0:
            lines = with_line(lines, left[0], left[1])
    return lines


def rank_of(views):
    return len(lines_of(views))


def turned_coins(lines, left):
    # One coin that is left over, and the lead of each line that has it: each line has none or two of them.
    coin = 1 << (left.bit_length() - 1)
    return coin + sum([lead for lead, mask, made in lines if mask & coin != 0])


def known(heap, g, view):
    lines = lines_of(views_of(heap, g))
    left = less_lines(lines, mask_of(view), 0)
    if left[0] == 0:
        return ("known", [place for number, place in enumerate(places_of(heap, g)) if left[1] & (1 << number) != 0])
    return ("open", names_in(heap[0], turned_coins(lines, left[0])))


def is_rising(things):
    return all([one < other for one, other in zip(things, things[1:])])


def is_place(heap, g, place):
    if not isinstance(place, tuple) or len(place) != 2:
        return False
    name = place[0]
    if name < 0 or name >= len(heap[1]) or g & (1 << name) == 0:
        return False
    return place[1] >= 0 and place[1] < len(heap[1][name])


def places_settle(heap, g, view, places):
    if not all([is_place(heap, g, place) for place in places]) or not is_rising(places):
        return False
    together = 0
    for name, number in places:
        together = together ^ mask_of(heap[1][name][number])
    return together == mask_of(view)


def is_coin(heap, coin):
    return isinstance(coin, int) and coin >= 0 and coin < heap[0]


def is_turned(view, coins):
    return len([coin for coin in view if coin in coins]) % 2 == 1


def coins_unsettle(heap, g, view, coins):
    if not all([is_coin(heap, coin) for coin in coins]) or not is_rising(coins):
        return False
    return is_turned(view, coins) and not any([is_turned(other, coins) for other in views_of(heap, g)])


def known_holds(heap, g, view, answer):
    if answer[0] == "known":
        return places_settle(heap, g, view, answer[1])
    return answer[0] == "open" and coins_unsettle(heap, g, view, answer[1])


def coin_table(heap):
    return [rank_of(views_of(heap, group)) for group in range(1, all_names(len(heap[1])) + 1)]


def counted(heap, g):
    ways = {}
    for number in range(1 << heap[0]):
        told = tuple(seen(heap, g, [(number >> coin) & 1 for coin in range(heap[0])]))
        ways[told] = ways.get(told, 0) + 1
    return sorted(ways.items())


def moved_views(views, many):
    return [[coin + many for coin in view] for view in views]


def beside(one, other):
    views = [moved_views(ahead, 0) + moved_views(behind, one[0]) for ahead, behind in zip(one[1], other[1])]
    return (one[0] + other[0], views)


def taken(heap, times):
    found = (0, [[] for name in heap[1]])
    for step in range(times):
        found = beside(found, heap)
    return found


def common_views(heap, a, b):
    # Made tells of each line what part of it comes of a's views. Where one of b's comes to nothing
    # beside the lines, that part is as much b's: it differs from it by other ones of b's.
    lines = [(lead, mask, mask) for lead, mask, made in lines_of(views_of(heap, a))]
    found = []
    for lead, mask, made in lines_of(views_of(heap, b)):
        left = less_lines(lines, mask, 0)
        if left[0] == 0:
            found.append(names_in(heap[0], left[1]))
        else:
            lines = with_line(lines, left[0], left[1])
    return found
