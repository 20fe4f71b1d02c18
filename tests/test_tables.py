"""Points 16 and 18: tables, their totals, tables added and put together."""

import random
import unittest

from countveil.errors import NoLots, NoTable, NoTables, TooGreat
from countveil.tables import MOST_CELL, added, put_together, table_wrong, totals, turned_table
from tests.drawing import bent, draw_table
from tests.samples import ANYTHING, refused_with

TABLE = (["n", "s"], ["old", "mid", "y"], [[1, 2, 3], [40, 50, 60]])
ROWS, COLUMNS, CELLS = TABLE
NO_TABLES = (
    *ANYTHING, [], list(TABLE), TABLE[:2], (*TABLE, []), (tuple(ROWS), COLUMNS, CELLS), ([], COLUMNS, []),
    (ROWS, COLUMNS, CELLS[:1]), (ROWS, COLUMNS, [[1, 2, 3], [4, 5]]), (ROWS, COLUMNS, [[1, 2, 3], [4, 5, -1]]),
    (ROWS, COLUMNS, [[1, 2, 3], [4, 5, True]]), (ROWS, COLUMNS, [[1, 2, 3], [4, 5, 10 ** 9 + 1]]),
)
NO_LABELS = (
    *ANYTHING[:-1], [], (), tuple(ROWS), "ns", [""], ["n", "n"], ["n", "s", "n"], ["n", None], ["n", 1], ["n", True],
    ["n", "abcde"], ["n", "S"], ["n", "s "], ["n", "-"], ["n", ("s",)], ["n", ["s"]], [["n"], ["n"]],
    ["a", "b", "c", "d", "e", "f", "g"], ["n", "s\n"], ["n", ""],
)


def draw_lots(chance, many):
    """Lots of the numbers below many, drawn by chance."""
    numbers = list(range(many))
    chance.shuffle(numbers)
    cuts = [0, *sorted(chance.sample(range(1, many), chance.randint(0, many - 1))), many]
    return [numbers[begin:end] for begin, end in zip(cuts, cuts[1:])]


def label_is_right(thing):
    return thing.__class__ == str and 1 <= len(thing) <= 4 and set(thing) <= set("abcdefghijklmnopqrstuvwxyz")


def labels_are_right(thing):
    if thing.__class__ != list or not 1 <= len(thing) <= 6 or not all(map(label_is_right, thing)):
        return False
    return len(set(thing)) == len(thing)


def second_look(thing):
    """What table_wrong should tell."""
    if thing.__class__ != tuple or len(thing) != 3:
        return ("table",)
    rows, columns, cells = thing
    for word, labels in (("rows", rows), ("columns", columns)):
        if not labels_are_right(labels):
            return (word,)
    if cells.__class__ != list or len(cells) != len(rows):
        return ("cells",)
    bad_rows = [i for i, row in enumerate(cells) if row.__class__ != list or len(row) != len(columns)]
    if bad_rows:
        return ("row", bad_rows[0])
    bad = [
        ("cell", i, k) for i in range(len(rows)) for k in range(len(columns))
        if cells[i][k].__class__ != int or not 0 <= cells[i][k] <= 1000000000
    ]
    return bad[0] if bad else None


class TableWrong(unittest.TestCase):
    def test_the_number(self):
        self.assertEqual(MOST_CELL, 10 ** 9)

    def test_right_ones(self):
        chance = random.Random(160)
        for height in range(1, 7):
            for width in range(1, 7):
                self.assertIsNone(table_wrong(draw_table(chance, 10 ** 9, height, width)))
        self.assertIsNone(table_wrong(thing=TABLE))

    def test_least_and_greatest_cells(self):
        self.assertIsNone(table_wrong((["a"], ["a"], [[0]])))
        self.assertIsNone(table_wrong((["a"], ["zzzz"], [[10 ** 9]])))
        self.assertIsNone(table_wrong((["a", "b"], ["a", "b"], [[10 ** 9] * 2] * 2)))

    def test_no_tuple_of_three(self):
        for thing in ([], list(TABLE), TABLE[:2], (*TABLE, None), (), (None,) * 4, [None] * 3, "abc", None, True, 3):
            self.assertEqual(table_wrong(thing), ("table",), thing)

    def test_anything_in_any_place(self):
        for thing in ANYTHING:
            for each in (
                thing, (thing, COLUMNS, CELLS), (ROWS, thing, CELLS), (ROWS, COLUMNS, thing), (thing, thing, thing),
                (ROWS, COLUMNS, [thing, CELLS[1]]), (ROWS, COLUMNS, [CELLS[0], thing]), (["a"], ["b"], [[thing]]),
                ([thing], COLUMNS, CELLS), (ROWS, [thing], CELLS), (["a"], ["b"], [thing]),
            ):
                self.assertEqual(table_wrong(each), second_look(each), each)

    def test_rows_and_columns(self):
        for labels in NO_LABELS:
            if labels != ["a"]:
                self.assertEqual(table_wrong((labels, COLUMNS, CELLS)), ("rows",), labels)
                self.assertEqual(table_wrong((labels, labels, labels)), ("rows",), labels)
                self.assertEqual(table_wrong((ROWS, labels, CELLS)), ("columns",), labels)
                self.assertEqual(table_wrong((ROWS, labels, None)), ("columns",), labels)

    def test_cells(self):
        for cells in (None, True, 2, [], (), tuple(CELLS), CELLS[:1], CELLS * 2, [None] * 3, (None, None)):
            self.assertEqual(table_wrong((ROWS, COLUMNS, cells)), ("cells",), cells)

    def test_a_row(self):
        for row in (None, True, 3, [], (1, 2, 3), [1, 2], [1, 2, 3, 4], [None] * 4, "abc"):
            self.assertEqual(table_wrong((ROWS, COLUMNS, [row, CELLS[1]])), ("row", 0), row)
            self.assertEqual(table_wrong((ROWS, COLUMNS, [CELLS[0], row])), ("row", 1), row)
            self.assertEqual(table_wrong((ROWS, COLUMNS, [row, row])), ("row", 0), row)

    def test_rows_ahead_of_cells(self):
        self.assertEqual(table_wrong((ROWS, COLUMNS, [[-1, -1, -1], [1, 2]])), ("row", 1))
        self.assertEqual(table_wrong((ROWS, COLUMNS, [[True, None, ""], None])), ("row", 1))

    def test_a_cell(self):
        for cell in (-1, 10 ** 9 + 1, 10 ** 29, -(10 ** 29), *[each for each in ANYTHING if each.__class__ != int]):
            for i in range(2):
                for k in range(3):
                    cells = [list(row) for row in CELLS]
                    cells[i][k] = cell
                    self.assertEqual(table_wrong((ROWS, COLUMNS, cells)), ("cell", i, k), cell)
                    cells[1][2] = cell
                    self.assertEqual(table_wrong((ROWS, COLUMNS, cells)), ("cell", i, k), cell)

    def test_bent_ones(self):
        chance = random.Random(161)
        seen = {}
        for _ in range(8000):
            thing = bent(chance, draw_table(chance, 10 ** 9))
            if chance.random() < 0.3:
                thing = bent(chance, thing)
            expected = second_look(thing)
            self.assertEqual(table_wrong(thing), expected, thing)
            seen[expected and expected[0]] = seen.get(expected and expected[0], 0) + 1
        for word in (None, "table", "rows", "columns", "cells", "row", "cell"):
            self.assertGreater(seen[word], 50, seen)


class Totals(unittest.TestCase):
    def test_some(self):
        self.assertEqual(totals(TABLE), ([6, 150], [41, 52, 63], 156))
        self.assertEqual(totals(table=(["a"], ["a"], [[7]])), ([7], [7], 7))
        self.assertEqual(totals((["a", "b"], ["a"], [[0], [0]])), ([0, 0], [0], 0))

    def test_against_a_second_count(self):
        chance = random.Random(162)
        for _ in range(300):
            rows, columns, cells = table = draw_table(chance, 10 ** 9)
            row_totals, column_totals, whole = totals(table)
            for i in range(len(rows)):
                self.assertEqual(row_totals[i], sum(cells[i]))
            for k in range(len(columns)):
                self.assertEqual(column_totals[k], sum(row[k] for row in cells))
            self.assertEqual((len(row_totals), len(column_totals)), (len(rows), len(columns)))
            self.assertEqual([whole, whole], [sum(row_totals), sum(column_totals)])

    def test_no_table(self):
        for thing in NO_TABLES:
            self.assertEqual(refused_with(totals, thing), NoTable, thing)


class TurnedTable(unittest.TestCase):
    def test_some(self):
        self.assertEqual(turned_table(TABLE), (["old", "mid", "y"], ["n", "s"], [[1, 40], [2, 50], [3, 60]]))

    def test_twice_turned(self):
        chance = random.Random(163)
        for _ in range(300):
            table = draw_table(chance)
            told = turned_table(table=table)
            self.assertIsNone(table_wrong(told))
            self.assertEqual(turned_table(told), table)
            for i in range(len(table[0])):
                for k in range(len(table[1])):
                    self.assertEqual(told[2][k][i], table[2][i][k])
            row_totals, column_totals, whole = totals(table)
            self.assertEqual(totals(told), (column_totals, row_totals, whole))

    def test_no_table(self):
        for thing in NO_TABLES:
            self.assertEqual(refused_with(turned_table, thing), NoTable, thing)


class Added(unittest.TestCase):
    def test_drawn_ones(self):
        chance = random.Random(164)
        for _ in range(300):
            rows, columns, cells = first = draw_table(chance, 10 ** 8)
            more = [
                (list(rows), list(columns), draw_table(chance, 10 ** 8, len(rows), len(columns))[2])
                for _ in range(chance.randint(0, 5))
            ]
            told = added([first, *more])
            self.assertIsNone(table_wrong(told))
            self.assertEqual(told[:2], (rows, columns))
            for i in range(len(rows)):
                for k in range(len(columns)):
                    self.assertEqual(told[2][i][k], sum(table[2][i][k] for table in [first, *more]))

    def test_one_and_six(self):
        self.assertEqual(added([TABLE]), TABLE)
        self.assertEqual(added(tables=[TABLE] * 6)[2], [[6, 12, 18], [240, 300, 360]])

    def test_no_tables(self):
        things = [*ANYTHING, [], (TABLE,), TABLE, [TABLE] * 7, [[TABLE]], *[[thing] for thing in NO_TABLES]]
        for thing in [*things, *[[TABLE, thing] for thing in NO_TABLES], *[[thing, TABLE] for thing in NO_TABLES]]:
            self.assertEqual(refused_with(added, thing), NoTables, thing)

    def test_other_labels(self):
        for other in (
            (["n", "w"], COLUMNS, CELLS), (["s", "n"], COLUMNS, CELLS), (ROWS, ["old", "y", "mid"], CELLS),
            (ROWS, COLUMNS[:2], [[1, 2], [3, 4]]), (ROWS[:1], COLUMNS, CELLS[:1]), turned_table(TABLE),
        ):
            self.assertEqual(refused_with(added, [TABLE, other]), NoTables, other)
            self.assertEqual(refused_with(added, [other, TABLE, TABLE]), NoTables, other)

    def test_too_great(self):
        great = (["a"], ["b", "c"], [[0, 10 ** 9]])
        one = (["a"], ["b", "c"], [[1, 1]])
        self.assertIsNone(refused_with(added, [great]))
        self.assertEqual(added([great, (["a"], ["b", "c"], [[10 ** 9, 0]])])[2], [[10 ** 9, 10 ** 9]])
        self.assertEqual(refused_with(added, [great, one]), TooGreat)
        self.assertEqual(refused_with(added, [great] * 6), TooGreat)
        self.assertEqual(refused_with(added, [great, one, None]), NoTables)


class PutTogether(unittest.TestCase):
    def test_some(self):
        self.assertEqual(put_together(TABLE, [[0, 1]], [[0, 1, 2]]), (["n"], ["old"], [[156]]))
        self.assertEqual(put_together(TABLE, [[1, 0]], [[2, 0], [1]]), (["s"], ["y", "mid"], [[104, 52]]))
        told = put_together(column_lots=[[1], [0], [2]], row_lots=[[1], [0]], table=TABLE)
        self.assertEqual(told, (["s", "n"], ["mid", "old", "y"], [[50, 40, 60], [2, 1, 3]]))
        self.assertEqual(put_together(TABLE, [[0], [1]], [[0], [1], [2]]), TABLE)

    def test_drawn_lots(self):
        chance = random.Random(165)
        for _ in range(500):
            rows, columns, cells = table = draw_table(chance, 10 ** 7)
            row_lots, column_lots = draw_lots(chance, len(rows)), draw_lots(chance, len(columns))
            told = put_together(table, row_lots, column_lots)
            self.assertIsNone(table_wrong(told))
            self.assertEqual(told[0], [rows[lot[0]] for lot in row_lots])
            self.assertEqual(told[1], [columns[lot[0]] for lot in column_lots])
            left = {(i, k): cells[i][k] for i in range(len(rows)) for k in range(len(columns))}
            for a, row_lot in enumerate(row_lots):
                for b, column_lot in enumerate(column_lots):
                    self.assertEqual(told[2][a][b], sum(left.pop((i, k)) for i in row_lot for k in column_lot))
            self.assertEqual(left, {})
            self.assertEqual(totals(told)[2], totals(table)[2])

    def test_no_lots(self):
        right_rows, right_columns = [[1], [0]], [[0, 2], [1]]
        no_row_lots = (
            *ANYTHING, [], (), [[0]], [[0], [1], []], [[], [0, 1]], [[0], [0]], [[0, 1], [1]], [[0, 1, 2]], [[0], [2]],
            [[0], [-1]], [[0], [True]], [[False], [1]], [[0], ["1"]], [[0], [None]], [[0], (1,)], ([0], [1]), [0, 1],
            [[0], 1], [[[0]], [1]], [[0], [1], [2]], [[0, 0, 1]], [[0], [[1]]], [[0], [(1,)]], [[0], None],
        )
        for lots in no_row_lots:
            for columns in (right_columns, None, lots):
                self.assertEqual(refused_with(put_together, TABLE, lots, columns), NoLots, lots)
        # These two are lots of the columns, of which there are three.
        no_column_lots = [lots for lots in no_row_lots if lots not in ([[0, 1, 2]], [[0], [1], [2]])]
        for lots in (*no_column_lots, [[0], [1]], [[0, 1]], [[0, 2], [1], [3]], [[0, 2], [2, 1]], [[0, -2], [1]]):
            self.assertEqual(refused_with(put_together, TABLE, right_rows, lots), NoLots, lots)

    def test_no_table(self):
        for thing in NO_TABLES:
            for lots in ([[0], [1]], None):
                self.assertEqual(refused_with(put_together, thing, lots, lots), NoTable, thing)

    def test_too_great(self):
        table = (["a", "b"], ["c", "d"], [[10 ** 9, 1], [0, 5]])
        self.assertEqual(put_together(table, [[0, 1]], [[0], [1]])[2], [[10 ** 9, 6]])
        self.assertEqual(refused_with(put_together, table, [[0], [1]], [[0, 1]]), TooGreat)
        self.assertEqual(refused_with(put_together, table, [[0, 1]], [[0, 1]]), TooGreat)
        self.assertEqual(refused_with(put_together, table, [[0, 1]], [[0, 1], []]), NoLots)
        self.assertEqual(refused_with(put_together, table, [[0], [1], []], [[0, 1]]), NoLots)


if __name__ == "__main__":
    unittest.main()
