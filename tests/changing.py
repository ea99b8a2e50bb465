"""Told things with one number, list or sign in them changed, for the tests of lookers and readers."""

from reckoning import is_whole

SIGNS = "".join(chr(k) for k in range(32, 127))


def with_parts(found, change):
    """All answers that come of one where change(thing) tells other things for a number or a list within it."""
    if isinstance(found, (list, tuple)):
        kind = type(found)
        for place, part in enumerate(found):
            for other in with_parts(part, change):
                yield kind(list(found[:place]) + [other] + list(found[place + 1:]))
    if not isinstance(found, (str, bool)):
        yield from change(found)


def other_numbers(thing):
    if is_whole(thing):
        return [number for number in (thing + 1, thing - 1, -thing, 0, 2 * thing) if number != thing]
    return []


def other_lists(thing):
    if isinstance(thing, list):
        return [thing + [0], [0] + thing, thing[:-1], thing[1:], [], thing + [1], thing * 2]
    return []


def with_a_sign_changed(text, signs):
    """Each text with one sign put in, left out or exchanged."""
    for place in range(len(text) + 1):
        for sign in signs:
            yield text[:place] + sign + text[place:]
            yield text[:place] + sign + text[place + 1:]
        yield text[:place] + text[place + 1:]
