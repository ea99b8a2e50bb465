import pickle
import unittest

from telltight import errors

WITH_A_VALUE = {"NoCount": ("count", 7), "NoGroup": ("group", -3), "NoTable": ("rule", ("pair", 0, 1, 4))}
WITHOUT = ("TooMany", "NoText", "NoLine", "NoPlace", "NoHeap")


class ErrorsTest(unittest.TestCase):
    def test_each_stands_straight_under_tell_error(self):
        self.assertEqual(errors.TellError.__bases__, (ValueError,))
        for name in list(WITH_A_VALUE) + list(WITHOUT):
            self.assertEqual(getattr(errors, name).__bases__, (errors.TellError,), name)

    def test_values_are_kept(self):
        for name, (word, thing) in WITH_A_VALUE.items():
            made = getattr(errors, name)(thing)
            self.assertEqual(getattr(made, word), thing)
            self.assertIsInstance(made, errors.TellError)
            self.assertIsInstance(made, ValueError)

    def test_values_of_any_size_are_kept(self):
        for number in (0, -(10 ** 40) + 1, 10 ** 6000):
            self.assertEqual(errors.NoCount(number).count, number)
            self.assertEqual(errors.NoGroup(number).group, number)

    def test_made_with_nothing_or_with_a_text(self):
        for name in WITHOUT:
            refusal = getattr(errors, name)
            self.assertIsInstance(refusal(), errors.TellError)
            self.assertIn("some words", str(refusal("some words")))

    def test_none_is_another(self):
        names = list(WITH_A_VALUE) + list(WITHOUT)
        for one in names:
            for other in names:
                if one != other:
                    self.assertFalse(issubclass(getattr(errors, one), getattr(errors, other)), (one, other))

    def test_are_carried_over_whole(self):
        made = pickle.loads(pickle.dumps(errors.NoTable(("last", 2))))
        self.assertEqual(made.rule, ("last", 2))


if __name__ == "__main__":
    unittest.main()
