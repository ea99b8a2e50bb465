import random
import unittest
from fractions import Fraction

from telltight.sheet import Sheet


def lying(sheet, at):
    """Each quantity where the free ones lie at the numbers handed in, column by column."""
    found = {quantity: Fraction(number) for quantity, number in zip(sheet.heads, at)}
    for quantity, line in zip(sheet.sides, sheet.lines):
        found[quantity] = sum((Fraction(x * y, sheet.below) for x, y in zip(line, at)), Fraction(line[-1], sheet.below))
    return found


class SheetTest(unittest.TestCase):
    def test_exchanges_keep_what_the_sheet_says(self):
        chance = random.Random(31)
        for _ in range(40):
            opening = [[chance.randint(-3, 3) for _ in range(5)] for _ in range(6)]
            sheet = Sheet(4, opening)
            for _ in range(12):
                place, column = chance.randrange(6), chance.randrange(4)
                if sheet.lines[place][column] != 0:
                    sheet.exchange(place, column)
                self.assertGreaterEqual(sheet.below, 1)
                found = lying(sheet, [chance.randint(-9, 9) for _ in range(4)])
                for row, line in enumerate(opening):
                    wanted = sum((x * found[k] for k, x in enumerate(line[:-1])), Fraction(line[-1]))
                    self.assertEqual(found[4 + row], wanted)

    def test_the_least_quantity_comes_first(self):
        sheet = Sheet(3, [[-1, -1, 1, 0], [-2, 0, 0, 0], [-1, 1, 1, 1], [1, 1, 1, 0]])
        for quantity in range(6):
            sheet.guard(quantity)
        self.assertEqual(sheet.raising_column(3), 0)
        self.assertEqual(sheet.tightest_place(0), 0)
        sheet.exchange(0, 1)
        self.assertEqual(sheet.heads, [0, 3, 2])
        sheet.nail(0)
        self.assertEqual(sheet.raising_column(3), 2)

    def test_a_nailed_quantity_moves_nothing(self):
        sheet = Sheet(2, [[1, 0, -1], [3, 0, 0]])
        sheet.nail(0)
        self.assertIs(sheet.lift(0), False)
        self.assertIsNone(sheet.drive_up(1))
        self.assertIsNone(sheet.moving_column(1))


if __name__ == "__main__":
    unittest.main()
