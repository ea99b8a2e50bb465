"""Whether what is told is the asker's own, and what was handed in stays (point 2)."""

import copy

from reckoning import lists_in


def spoil(thing):
    """Each list in it is changed: a number or what else stands first in it, and its length."""
    for found in lists_in(thing):
        if found:
            found[0] = "spoilt"
        found.append("spoilt")


def expect_own(case, function, arguments, apart=True):
    """Told is what the function tells; all of point 2 that can be seen from without is held against it."""
    arguments = copy.deepcopy(arguments)
    kept = copy.deepcopy(arguments)
    words = f"{function.__name__}{arguments}"[:300]
    first = function(*arguments)
    told = copy.deepcopy(first)
    case.assertEqual(arguments, kept, words)
    if apart:
        lists = lists_in(first)
        case.assertEqual(len({id(one) for one in lists}), len(lists), words)
    spoil(arguments)
    case.assertEqual(first, told, words)
    spoil(first)
    case.assertEqual(function(*kept), told, words)
    return told
