"""How the tests hold a refusal against what the document tells of it."""

from telltight import errors

BAD_COUNTS = (0, 5, -1, -4, 6, 100, 10 ** 40 - 1, -(10 ** 40) + 1)
FAR = 10 ** 40 - 1


def bad_groups(n, nobody):
    """Numbers that are no group of n names, nor nobody where that may stand."""
    found = [-1, -2, -FAR, 2 ** n, 2 ** n + 1, FAR]
    return found if nobody else found + [0]


def expect_kind(case, name, function, arguments):
    """The refusal of that name and of no other one; told is the error."""
    refusals = ("NoCount", "NoGroup", "NoTable", "TooMany", "NoText", "NoLine", "NoPlace", "NoHeap")
    # What was handed in may be a text of many signs.
    told = f"{function.__name__}{arguments}"[:300]
    with case.assertRaises(ValueError, msg=told) as caught:
        function(*arguments)
    found = caught.exception
    case.assertIsInstance(found, errors.TellError, told)
    for other in refusals:
        case.assertEqual(isinstance(found, getattr(errors, other)), other == name, told)
    return found


def expect_refusal(case, name, word, thing, function, arguments):
    found = expect_kind(case, name, function, arguments)
    case.assertEqual(getattr(found, word), thing, arguments)


def expect_all_refusals(case, function, nobody_at):
    """nobody_at says for each group behind n whether nobody (0) may stand there.

    Groups that are none stand alone and with every later place wrong too:
    the first one is refused; and a count that is none comes ahead of all.
    """
    places = len(nobody_at)
    for count in BAD_COUNTS:
        expect_refusal(case, "NoCount", "count", count, function, (count,) + (1,) * places)
        expect_refusal(case, "NoCount", "count", count, function, (count,) + (-7,) * places)
    for n in (1, 2, 3, 4):
        for place, nobody in enumerate(nobody_at):
            for bad in bad_groups(n, nobody):
                ahead = (n,) + (1,) * place + (bad,)
                behind = places - place - 1
                expect_refusal(case, "NoGroup", "group", bad, function, ahead + (1,) * behind)
                expect_refusal(case, "NoGroup", "group", bad, function, ahead + (-99,) * behind)
                expect_refusal(case, "NoGroup", "group", bad, function, ahead + (2 ** n + 5,) * behind)
