"""Points 27 to 29: roundings of tables, and the nearest ones."""

import itertools
import random
import time
import unittest

from countveil.errors import NoBase, NoTable
from countveil.roundings import nearest, nearest_judged, rounding_wrong
from countveil.tables import MOST_CELL, table_wrong
from tests.drawing import bent, draw_table
from tests.samples import ANYTHING, refused_with
from tests.test_tables import NO_TABLES

TABLE = (["n", "s"], ["old", "mid", "y"], [[1, 2, 3], [40, 50, 60]])
ROUNDING = (["n", "s"], ["old", "mid", "y"], [[0, 0, 10], [40, 50, 60]])
NO_BASES = (*[thing for thing in ANYTHING if thing != 10 ** 29], 1, 0, -2, 1001, 10 ** 29, True, False, "10", (10,), [10])


def draw_base(chance):
    return chance.choice((2, 3, 5, 10, 100, 1000, chance.randint(2, 1000)))


def draw_small(chance, most):
    """A table of one to three rows and columns."""
    return draw_table(chance, most, chance.randint(1, 3), chance.randint(1, 3))


def figures(cells):
    """A dict of the numbers of cells and totals by their places, in order."""
    height, width = len(cells), len(cells[0])
    found = {("cell", i, k): cells[i][k] for i in range(height) for k in range(width)}
    found.update({("row", i): sum(cells[i]) for i in range(height)})
    found.update({("column", k): sum(cells[i][k] for i in range(height)) for k in range(width)})
    found["all",] = sum(map(sum, cells))
    return found


def choices(number, base):
    """The multiples next to a number."""
    below = number - number % base
    return [below] if below == number else [below, below + base]


def rounding_look(table, base, thing):
    """What rounding_wrong should tell."""
    if thing.__class__ != tuple or len(thing) != 3 or thing[0] != table[0] or thing[1] != table[1]:
        return ("table",)
    cells = thing[2]
    if cells.__class__ != list or [row.__class__ for row in cells] != [list] * len(table[0]):
        return ("table",)
    if any(len(row) != len(table[1]) for row in cells):
        return ("table",)
    if any(cell.__class__ != int or cell < 0 for row in cells for cell in row):
        return ("table",)
    rounded = figures(cells)
    for place, number in figures(table[2]).items():
        if rounded[place] not in choices(number, base):
            return place
    return None


def moves_of(table, rounding):
    ahead, behind = figures(table[2]), figures(rounding[2])
    return sum(abs(ahead[place] - behind[place]) for place in ahead)


def all_roundings(table, base):
    """Each rounding of a small table, by going through all multiples beside each cell."""
    rows, columns, cells = table
    found = []
    for chosen in itertools.product(*[choices(cell, base) for row in cells for cell in row]):
        thing = (rows, columns, [list(chosen[i * len(columns):(i + 1) * len(columns)]) for i in range(len(rows))])
        if rounding_look(table, base, thing) is None:
            found.append(thing)
    return found


def worth(place, gain, potentials):
    ys, zs, w = potentials
    if place[0] == "cell":
        return gain - ys[place[1]] - zs[place[2]]
    if place[0] == "row":
        return gain + ys[place[1]] - w
    if place[0] == "column":
        return gain + zs[place[1]]
    return gain + w


def judged_look(table, base, thing):
    """What nearest_judged should tell."""
    height, width = len(table[0]), len(table[1])
    if thing.__class__ != tuple or len(thing) != 3 or thing[1].__class__ != int or thing[2].__class__ != tuple:
        return ("nearest",)
    if [each.__class__ for each in thing[2]] != [list, list, int] or [len(each) for each in thing[2][:2]] != [height, width]:
        return ("nearest",)
    if any(each.__class__ != int for each in thing[2][0] + thing[2][1]):
        return ("nearest",)
    wrong = rounding_look(table, base, thing[0])
    if wrong is not None:
        return ("rounding", wrong)
    if thing[1] != moves_of(table, thing[0]):
        return ("moves",)
    rounded = figures(thing[0][2])
    for place, number in figures(table[2]).items():
        here = worth(place, base - 2 * (number % base), thing[2])
        if (rounded[place] > number and here > 0) or (rounded[place] < number and here < 0):
            return ("worth", place)
    return None


class RoundingWrong(unittest.TestCase):
    def test_some(self):
        self.assertIsNone(rounding_wrong(TABLE, 10, ROUNDING))
        self.assertIsNone(rounding_wrong(thing=ROUNDING, base=10, table=TABLE))
        self.assertIsNone(rounding_wrong((["a"], ["b"], [[7]]), 5, (["a"], ["b"], [[5]])))
        self.assertIsNone(rounding_wrong((["a"], ["b"], [[7]]), 5, (["a"], ["b"], [[10]])))

    def test_no_table_of_these_labels(self):
        rows, columns, cells = ROUNDING
        for thing in (
            *ANYTHING, list(ROUNDING), ROUNDING[:2], (*ROUNDING, None), (["n", "w"], columns, cells),
            (["s", "n"], columns, cells), (rows, ["old", "y", "mid"], cells), (tuple(rows), columns, cells),
            (columns, rows, [[0, 40], [0, 50], [10, 60]]), (rows, columns, cells[:1]), (rows, columns, tuple(cells)),
            (rows, columns, [[0, 0, 10], (40, 50, 60)]), (rows, columns, [[0, 0, 10], [40, 50]]),
            (rows, columns, [[0, 0, 10], [40, 50, 60, 0]]), (rows, columns, [[0, 0, -10], [40, 50, 60]]),
            (rows, columns, [[0, False, 10], [40, 50, 60]]), (rows, columns, [[0, None, 10], [40, 50, 60]]),
            (rows, columns, [[0, "0", 10], [40, 50, 60]]), (rows, columns, [[1, 2, 3], [40, 50, True]]),
        ):
            self.assertEqual(rounding_wrong(TABLE, 10, thing), ("table",), thing)

    def test_the_first_of_several(self):
        rows, columns, cells = TABLE

        def told(*lines):
            return rounding_wrong(TABLE, 10, (rows, columns, [list(line) for line in lines]))

        self.assertEqual(told((20, 0, 5), (41, 50, 60)), ("cell", 0, 0))
        self.assertEqual(told((0, 0, 5), (41, 50, 60)), ("cell", 0, 2))
        self.assertEqual(told((10, 10, 10), (40, 50, 50)), ("cell", 1, 2))
        self.assertEqual(told((10, 10, 10), (40, 50, 60)), ("row", 0))
        self.assertEqual(told((0, 0, 0), (40, 50, 60)), None)
        self.assertEqual(told((10, 10, 0), (40, 50, 60)), ("row", 0))
        self.assertEqual(rounding_wrong((["a", "b"], ["c"], [[3], [3]]), 10, (["a", "b"], ["c"], [[10], [10]])), ("column", 0))
        square = (["a", "b"], ["c", "d"], [[4, 4], [4, 4]])
        self.assertEqual(rounding_wrong(square, 5, (["a", "b"], ["c", "d"], [[5, 5], [5, 5]])), None)
        table = (["a", "b"], ["c", "d"], [[3, 0], [0, 3]])
        self.assertEqual(rounding_wrong(table, 10, (["a", "b"], ["c", "d"], [[10, 0], [0, 10]])), ("all",))

    def test_multiples_stay(self):
        rows, columns, cells = TABLE
        for other in (40 + 10, 40 - 10, 0):
            thing = (rows, columns, [[0, 0, 10], [other, 50, 60]])
            self.assertEqual(rounding_wrong(TABLE, 10, thing), ("cell", 1, 0))
        nought = (["a"], ["b"], [[0]])
        self.assertIsNone(rounding_wrong(nought, 7, nought))
        self.assertEqual(rounding_wrong(nought, 7, (["a"], ["b"], [[7]])), ("cell", 0, 0))

    def test_cells_beyond_the_greatest(self):
        table = (["a"], ["b"], [[MOST_CELL]])
        for base in (3, 7, 999):
            above = MOST_CELL - MOST_CELL % base + base
            self.assertGreater(above, MOST_CELL)
            self.assertIsNone(rounding_wrong(table, base, (["a"], ["b"], [[above]])))
            self.assertEqual(rounding_wrong(table, base, (["a"], ["b"], [[above + base]])), ("cell", 0, 0))
            self.assertEqual(rounding_wrong(table, base, (["a"], ["b"], [[above + 10 ** 29 * base]])), ("cell", 0, 0))

    def test_all_of_small_tables(self):
        chance = random.Random(270)
        for _ in range(60):
            table, base = draw_small(chance, 30), draw_base(chance)
            found = all_roundings(table, base)
            self.assertGreater(len(found), 0)
            for thing in found:
                self.assertIsNone(rounding_wrong(table, base, thing))

    def test_bent_ones(self):
        chance = random.Random(271)
        seen = {}
        for _ in range(6000):
            table, base = draw_small(chance, chance.choice((5, 30))), chance.choice((2, 3, 5, 10))
            thing = (table[0], table[1], [[chance.choice(choices(cell, base)) for cell in row] for row in table[2]])
            if chance.random() < 0.6:
                thing = bent(chance, thing)
            expected = rounding_look(table, base, thing)
            self.assertEqual(rounding_wrong(table, base, thing), expected, thing)
            seen[expected and expected[0]] = seen.get(expected and expected[0], 0) + 1
        for word in (None, "table", "cell", "row", "column", "all"):
            self.assertGreater(seen[word], 15, seen)


class Refusals(unittest.TestCase):
    def test_no_table(self):
        for thing in NO_TABLES:
            for base in (10, None, thing):
                self.assertEqual(refused_with(rounding_wrong, thing, base, ROUNDING), NoTable, thing)
                self.assertEqual(refused_with(nearest, thing, base), NoTable, thing)
                self.assertEqual(refused_with(nearest_judged, thing, base, None), NoTable, thing)

    def test_no_base(self):
        for base in NO_BASES:
            self.assertEqual(refused_with(rounding_wrong, TABLE, base, ROUNDING), NoBase, base)
            self.assertEqual(refused_with(nearest, TABLE, base), NoBase, base)
            self.assertEqual(refused_with(nearest_judged, TABLE, base, None), NoBase, base)

    def test_least_and_greatest_base(self):
        for base in (2, 1000):
            self.assertIsNone(rounding_wrong(TABLE, base, nearest(TABLE, base)[0]))


class Nearest(unittest.TestCase):
    def look(self, table, base):
        told = nearest(table, base)
        rounding, moves, potentials = told
        self.assertIsNone(rounding_look(table, base, rounding), (table, base, told))
        self.assertEqual(moves, moves_of(table, rounding))
        self.assertIsNone(judged_look(table, base, told), (table, base, told))
        self.assertIsNone(nearest_judged(table, base, told))
        return told

    def test_moves_as_little_as_any(self):
        chance = random.Random(280)
        for _ in range(250):
            table, base = draw_small(chance, chance.choice((4, 12, 40, 2000))), draw_base(chance)
            told = self.look(table, base)
            self.assertEqual(told[1], min(moves_of(table, thing) for thing in all_roundings(table, base)), table)

    def test_every_table_of_two_by_two(self):
        for cells in itertools.product(range(4), repeat=4):
            table = (["a", "b"], ["c", "d"], [list(cells[:2]), list(cells[2:])])
            told = self.look(table, 3)
            self.assertEqual(told[1], min(moves_of(table, thing) for thing in all_roundings(table, 3)), table)

    def test_a_table_of_multiples_stays(self):
        told = nearest(base=5, table=(["a"], ["b", "c"], [[5, 1000]]))
        self.assertEqual(told[:2], ((["a"], ["b", "c"], [[5, 1000]]), 0))

    def test_great_tables_are_told_soon(self):
        chance = random.Random(281)
        begin = time.perf_counter()
        for base in (2, 3, 7, 10, 100, 999, 1000):
            for _ in range(15):
                rows, columns, cells = table = draw_table(chance, MOST_CELL, 6, 6)
                self.look(table, base)
                self.look((rows, columns, [[MOST_CELL - chance.randint(0, 9) for _ in range(6)] for _ in range(6)]), base)
        self.assertLess(time.perf_counter() - begin, 20)

    def test_beyond_the_greatest_cell(self):
        table = (["a"], ["b"], [[MOST_CELL]])
        told = self.look(table, 7)
        self.assertGreater(told[0][2][0][0], MOST_CELL)
        self.assertEqual(table_wrong(told[0]), ("cell", 0, 0))


class NearestJudged(unittest.TestCase):
    def test_other_nearest_ones_with_the_same_potentials(self):
        chance = random.Random(290)
        others = 0
        for _ in range(150):
            table, base = draw_small(chance, 12), chance.choice((2, 4, 5, 6, 10))
            rounding, moves, potentials = nearest(table, base)
            for thing in all_roundings(table, base):
                told = nearest_judged(table, base, (thing, moves_of(table, thing), potentials))
                if moves_of(table, thing) == moves:
                    self.assertIsNone(told)
                    others += thing != rounding
                else:
                    self.assertEqual(told[0], "worth")
                    self.assertEqual(told, judged_look(table, base, (thing, moves_of(table, thing), potentials)))
        self.assertGreater(others, 30)

    def test_by_its_form(self):
        rounding, moves, (ys, zs, w) = told = nearest(TABLE, 10)
        for thing in (
            *ANYTHING, list(told), told[:2], (*told, None), (rounding, str(moves), told[2]), (rounding, None, told[2]),
            (rounding, True, told[2]), (rounding, moves, None), (rounding, moves, [ys, zs, w]), (rounding, moves, (ys, zs)),
            (rounding, moves, (ys, zs, w, w)), (rounding, moves, (tuple(ys), zs, w)), (rounding, moves, (ys, tuple(zs), w)),
            (rounding, moves, (ys[:1], zs, w)), (rounding, moves, ([*ys, 0], zs, w)), (rounding, moves, (ys, zs[:2], w)),
            (rounding, moves, (ys, [*zs, 0], w)), (rounding, moves, (ys, zs, None)), (rounding, moves, (ys, zs, False)),
            (rounding, moves, ([ys[0], True], zs, w)), (rounding, moves, (ys, [*zs[:2], None], w)),
            (rounding, moves, ([ys[0], "1"], zs, w)), (rounding, moves, (zs, ys, w)), (None, moves, (ys, zs, [w])),
        ):
            self.assertEqual(nearest_judged(TABLE, 10, thing), ("nearest",), thing)

    def test_the_order(self):
        rounding, moves, potentials = nearest(TABLE, 10)
        far = ([10 ** 29] * 2, [0] * 3, 0)
        self.assertEqual(nearest_judged(TABLE, 10, (None, moves + 1, far)), ("rounding", ("table",)))
        wrong = (rounding[0], rounding[1], [[20, 0, 0], [40, 50, 60]])
        self.assertEqual(nearest_judged(TABLE, 10, (wrong, moves + 1, far)), ("rounding", ("cell", 0, 0)))
        for other in (moves + 1, moves - 1, -moves, 0, 10 ** 29):
            self.assertEqual(nearest_judged(TABLE, 10, (rounding, other, far)), ("moves",))
        self.assertEqual(nearest_judged(TABLE, 10, (rounding, moves, far)), judged_look(TABLE, 10, (rounding, moves, far)))
        self.assertEqual(nearest_judged(TABLE, 10, (rounding, moves, far))[0], "worth")
        self.assertIsNone(nearest_judged(thing=(rounding, moves, potentials), base=10, table=TABLE))

    def test_each_kind_of_worth(self):
        table = (["a"], ["b"], [[7]])
        down, up = (["a"], ["b"], [[0]]), (["a"], ["b"], [[10]])
        # The gain is 10 - 14 = -4, of the cell and of each total.
        for (y, z, w), place in (
            ((-9, 0, 0), ("cell", 0, 0)), ((-4, -1, 0), ("cell", 0, 0)), ((5, 0, 0), ("row", 0)), ((0, 0, -5), ("row", 0)),
            ((0, 5, 0), ("column", 0)), ((0, 0, 5), ("all",)), ((8, 5, 5), ("column", 0)),
        ):
            self.assertEqual(nearest_judged(table, 10, (up, 12, ([y], [z], w))), ("worth", place), (y, z, w))
        for potentials in (([0], [0], 0), ([4], [4], 4), ([-4], [0], 0), ([4], [0], 0), ([0], [0], 4), ([0], [0], -4)):
            self.assertIsNone(nearest_judged(table, 10, (up, 12, potentials)), potentials)
        self.assertEqual(nearest_judged(table, 10, (down, 28, ([0], [0], 0))), ("worth", ("cell", 0, 0)))
        self.assertEqual(nearest_judged(table, 10, (down, 28, ([-4], [0], 0))), ("worth", ("row", 0)))

    def test_bent_ones(self):
        chance = random.Random(291)
        seen = {}
        for _ in range(6000):
            table, base = draw_small(chance, chance.choice((9, 40))), chance.choice((2, 3, 5, 10))
            thing = nearest(table, base)
            for _ in range(chance.randint(1, 2)):
                thing = bent(chance, thing)
            expected = judged_look(table, base, thing)
            self.assertEqual(nearest_judged(table, base, thing), expected, (table, base, thing))
            seen[expected and expected[0]] = seen.get(expected and expected[0], 0) + 1
        for word in (None, "nearest", "rounding", "moves", "worth"):
            self.assertGreater(seen[word], 30, seen)


if __name__ == "__main__":
    unittest.main()
