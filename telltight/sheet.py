"""A sheet of sums, by which one sum is driven up while others stay from nought on.

A sheet speaks of quantities, numbered from 0 on. At each time some of them are free:
each has a column (heads tells which one it is) and lies at nought. Each other one has
a line (sides tells which one it is): a number for each column and one more at the end.
The quantity of a line is the sum of the free ones, each taken as often as its column
tells, and of the last number, all divided by below, which is from 1 on.

All numbers of a sheet stay whole: they are determinants of the numbers that it was
made of, and so is below. So no number is longer than such a determinant can be.
"""


def changed_line(line, pivot_line, column, sign, below):
    # The divisions leave nothing over, as all these numbers are determinants.
    pivot = pivot_line[column]
    factor = line[column]
    if factor == 0:
        return line if pivot == below else [number * pivot // below for number in line]
    changed = [(number * pivot - factor * other) // below for number, other in zip(line, pivot_line)]
    changed[column] = sign * factor
    return changed


class Sheet:
    def __init__(self, width, lines):
        self.below = 1
        self.lines = [list(line) for line in lines]
        self.heads = list(range(width))
        self.sides = list(range(width, width + len(lines)))
        # Quantities that may not fall below nought.
        self.guarded = {}
        # Quantities that lie at nought for good, once they are free.
        self.nailed = {}
        # Quantities whose sign was turned about.
        self.turned = {}

    def guard(self, quantity):
        self.guarded[quantity] = True

    def nail(self, quantity):
        self.nailed[quantity] = True

    def turn_line(self, place):
        self.lines[place] = [-number for number in self.lines[place]]
        self.turned[self.sides[place]] = True

    def exchange(self, place, column):
        # The quantity of the line becomes free, that of the column gets the line.
        sign = -1 if self.lines[place][column] < 0 else 1
        pivot_line = [sign * number for number in self.lines[place]]
        below = self.below
        self.lines = [changed_line(line, pivot_line, column, sign, below) for line in self.lines]
        self.lines[place] = [-number for number in pivot_line]
        self.lines[place][column] = sign * below
        self.below = pivot_line[column]
        freed = self.sides[place]
        self.sides[place] = self.heads[column]
        self.heads[column] = freed

    def loose_columns(self):
        return [column for column, quantity in enumerate(self.heads) if quantity not in self.nailed]

    def raising_column(self, place):
        # Always the quantity with the least number, here and among equally tight lines:
        # so the same quantities are never free again, and the driving ends.
        line = self.lines[place]
        found = [column for column in self.loose_columns() if line[column] > 0]
        return min(found, key=lambda column: self.heads[column], default=None)

    def moving_column(self, place):
        line = self.lines[place]
        return min([column for column in self.loose_columns() if line[column] != 0], default=None)

    def is_tighter(self, one, other, column):
        # Both lines fall as the column grows: whether the one comes to nought ahead of the other.
        ahead = self.lines[one][-1] * -self.lines[other][column]
        behind = self.lines[other][-1] * -self.lines[one][column]
        return ahead < behind or (ahead == behind and self.sides[one] < self.sides[other])

    def tightest_place(self, column):
        best = None
        for place, line in enumerate(self.lines):
            if line[column] < 0 and self.sides[place] in self.guarded:
                if best is None or self.is_tighter(place, best, column):
                    best = place
        return best

    def is_up_first(self, place, tight, column):
        # Whether the line, from below, comes to nought no later than the tight one, from above.
        up = self.lines[place][-1] * self.lines[tight][column]
        return up <= self.lines[tight][-1] * self.lines[place][column]

    def lift(self, place):
        # Drives a line up to nought where it lies below; False where it can't come there.
        while self.lines[place][-1] < 0:
            column = self.raising_column(place)
            if column is None:
                return False
            tight = self.tightest_place(column)
            if tight is None or self.is_up_first(place, tight, column):
                self.exchange(place, column)
                return True
            self.exchange(tight, column)
        return True

    def drive_up(self, place):
        # The column along which the line grows without end, or None where it is at its greatest.
        column = self.raising_column(place)
        while column is not None:
            tight = self.tightest_place(column)
            if tight is None:
                return column
            self.exchange(tight, column)
            column = self.raising_column(place)
        return None
