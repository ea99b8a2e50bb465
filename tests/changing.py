"""Told things with one number or list in them changed, for the lookers' tests."""

from reckoning import is_whole


def with_parts(found, change):
    """All answers that come of one where change(thing) tells other things for a number or a list within it."""
    if isinstance(found, (list, tuple)):
        kind = type(found)
        for place, part in enumerate(found):
            for other in with_parts(part, change):
                yield kind(list(found[:place]) + [other] + list(found[place + 1:]))
    if not isinstance(found, (str, bool)):
        yield from change(found)


def other_numbers(thing):
    if is_whole(thing):
        return [number for number in (thing + 1, thing - 1, -thing, 0, 2 * thing) if number != thing]
    return []


def other_lists(thing):
    if isinstance(thing, list):
        return [thing + [0], [0] + thing, thing[:-1], thing[1:], [], thing + [1], thing * 2]
    return []
