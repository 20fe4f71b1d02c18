"""Points 17 and 18: tables of books, weighed cells and layers."""

import itertools
import random
import unittest
from fractions import Fraction

from countveil.counting import layers, table_of, weighed_cells
from countveil.donors import filled
from countveil.errors import NoBook, NoPlan, NoRight, NoSort, NoWeights, NoWhat
from countveil.tables import added, table_wrong, totals
from countveil.weighing import weights as nearest_weights
from tests.drawing import draw_book, draw_costs, draw_rules, plan_of
from tests.samples import ANYTHING, PLAN, SMALL, WIDE, refusal, refused_with

BOOK = [
    ("f", "old", "n", 7), ("m", None, "nort", 5), (None, None, None, 10 ** 6), ("f", "y", "ne", 3), ("f", "old", None, 12),
    ("f", "old", "n", 100), (None, "old", "n", 1000), ("m", "y", "s", 0),
]
NO_SORTS = (*[thing for thing in ANYTHING if thing not in (0, 1)], -1, -3, 3, 4, "0", "sex", (0,), [0], [], True, False)


def second_count(plan, book, row, column, what):
    """The cells of a table of a book, counted by going through the book once."""
    found = {}
    for record in book:
        place = (record[row], record[column])
        found[place] = found.get(place, 0) + (1 if what == "count" else record[-1])
    return [[found.get((one, other), 0) for other in plan[column][1]] for one in plan[row][1]]


def draw_weights(chance, book):
    """A fraction for each record."""
    drawn = [Fraction(chance.randint(-6, 9), chance.randint(1, 6)) for _ in book]
    return [(each.numerator, each.denominator) for each in drawn]


class TableOf(unittest.TestCase):
    def test_some(self):
        self.assertEqual(
            table_of(PLAN, BOOK, 0, 1), (["f", "m"], ["old", "mid", "y"], [[3, 0, 1], [0, 0, 1]]),
        )
        self.assertEqual(
            table_of(PLAN, BOOK, 0, 1, what="measure"), (["f", "m"], ["old", "mid", "y"], [[119, 0, 3], [0, 0, 0]]),
        )
        self.assertEqual(
            table_of(PLAN, BOOK, 2, 0, what="count"),
            (["n", "ne", "nort", "s"], ["f", "m"], [[2, 0], [1, 0], [0, 1], [0, 1]]),
        )

    def test_against_a_second_count(self):
        chance = random.Random(170)
        for _ in range(400):
            plan = plan_of(*[chance.randint(2, 6) for _ in range(chance.randint(2, 4))])
            book = draw_book(chance, plan, chance.randint(0, 60), chance.choice((0, 0.3)), 10 ** 6)
            for row, column in itertools.permutations(range(len(plan)), 2):
                for what in ("count", "measure"):
                    rows, columns, cells = told = table_of(plan, book, row, column, what=what)
                    self.assertIsNone(table_wrong(told))
                    self.assertEqual((rows, columns), (list(plan[row][1]), list(plan[column][1])))
                    self.assertEqual(cells, second_count(plan, book, row, column, what))
                self.assertEqual(table_of(plan, book, row, column), table_of(plan, book, row, column, what="count"))

    def test_a_book_without_records(self):
        self.assertEqual(table_of(PLAN, [], 0, 1), (["f", "m"], ["old", "mid", "y"], [[0, 0, 0], [0, 0, 0]]))

    def test_sixty_great_measures(self):
        book = [("f", "old", "n", 10 ** 6)] * 60
        self.assertEqual(table_of(PLAN, book, 0, 1, what="measure")[2], [[6 * 10 ** 7, 0, 0], [0, 0, 0]])

    def test_by_names(self):
        told = table_of(what="measure", column=1, row=0, book=BOOK, plan=PLAN)
        self.assertEqual(told, table_of(PLAN, BOOK, 0, 1, what="measure"))

    def test_what_by_its_name_alone(self):
        with self.assertRaises(TypeError):
            table_of(PLAN, BOOK, 0, 1, "count")
        with self.assertRaises(TypeError):
            layers(PLAN, BOOK, 0, 1, 2, "count")

    def test_tables_of_a_filled_book_have_as_many_as_records(self):
        chance = random.Random(171)
        filled_books = 0
        for _ in range(300):
            plan = plan_of(*[chance.randint(2, 4) for _ in range(chance.randint(2, 4))])
            rules = draw_rules(chance, plan, 4)
            book = draw_book(chance, plan, chance.randint(0, 20), 0.3)
            if isinstance(refusal(filled, plan, rules, draw_costs(chance, plan), book), NoRight):
                continue
            told = filled(plan, rules, draw_costs(chance, plan), book)
            filled_books += 1
            for row, column in itertools.permutations(range(len(plan)), 2):
                self.assertEqual(totals(table_of(plan, told, row, column))[2], len(book))
                measure = totals(table_of(plan, told, row, column, what="measure"))[2]
                self.assertEqual(measure, sum(record[-1] for record in book))
        self.assertGreater(filled_books, 150)


class WeighedCells(unittest.TestCase):
    def test_some(self):
        weights = [(1, 2), (3, 1), (7, 1), (-1, 3), (1, 3), (1, 6), (5, 1), (2, 1)]
        self.assertEqual(
            weighed_cells(PLAN, BOOK, 0, 1, weights), [[(1, 1), (0, 1), (-1, 3)], [(0, 1), (0, 1), (2, 1)]],
        )
        told = weighed_cells(weights=weights, column=0, row=1, book=BOOK, plan=PLAN)
        self.assertEqual(told, [[(1, 1), (0, 1)], [(0, 1), (0, 1)], [(-1, 3), (2, 1)]])

    def test_against_a_second_count(self):
        chance = random.Random(172)
        for _ in range(300):
            plan = plan_of(*[chance.randint(2, 6) for _ in range(chance.randint(2, 4))])
            book = draw_book(chance, plan, chance.randint(0, 60))
            weights = draw_weights(chance, book)
            row, column = chance.sample(range(len(plan)), 2)
            told = weighed_cells(plan, book, row, column, weights)
            self.assertEqual([len(line) for line in told], [len(plan[column][1])] * len(plan[row][1]))
            for one, line in zip(plan[row][1], told):
                for other, cell in zip(plan[column][1], line):
                    come_to = sum(
                        (Fraction(*weight) for record, weight in zip(book, weights)
                         if record[row] == one and record[column] == other), Fraction(0),
                    )
                    self.assertEqual(cell, (come_to.numerator, come_to.denominator))

    def test_weights_of_one_count(self):
        told = weighed_cells(PLAN, BOOK, 0, 2, [(1, 1)] * len(BOOK))
        self.assertEqual(told, [[(cell, 1) for cell in line] for line in table_of(PLAN, BOOK, 0, 2)[2]])

    def test_weights_that_meet_known_totals(self):
        book = [("f", "old", "n", 7), ("m", "y", "nort", 5), ("f", "y", "ne", 3), ("m", "mid", "s", 0)]
        known = [((0, "f"), 100), ((1, "y"), 7)]
        told = weighed_cells(PLAN, book, 0, 1, nearest_weights(PLAN, book, known))
        self.assertEqual(sum(Fraction(*cell) for cell in told[0]), 100)
        self.assertEqual(sum(Fraction(*line[2]) for line in told), 7)

    def test_a_book_without_records(self):
        self.assertEqual(weighed_cells(PLAN, [], 0, 1, []), [[(0, 1)] * 3] * 2)

    def test_no_weights(self):
        right = [(1, 1)] * len(BOOK)
        things = [
            *ANYTHING, [], tuple(right), right[:-1], [*right, (1, 1)], [*right[:-1], None], [*right[:-1], 1],
            [*right[:-1], (2, 2)], [*right[:-1], (0, 2)], [*right[:-1], (1, 0)], [*right[:-1], (1, -1)],
            [*right[:-1], (True, 1)], [*right[:-1], (1, True)], [*right[:-1], [1, 1]], [*right[:-1], (1, 1, 1)],
            [(1,), *right[1:]], [("1", 1), *right[1:]],
        ]
        for thing in things:
            self.assertEqual(refused_with(weighed_cells, PLAN, BOOK, 0, 1, thing), NoWeights, thing)
        self.assertEqual(refused_with(weighed_cells, PLAN, [], 0, 1, [(1, 1)]), NoWeights)


class Layers(unittest.TestCase):
    def test_some(self):
        self.assertEqual(layers(PLAN, BOOK, 0, 1, 2), [
            (["old", "mid", "y"], ["n", "ne", "nort", "s"], [[2, 0, 0, 0], [0, 0, 0, 0], [0, 1, 0, 0]]),
            (["old", "mid", "y"], ["n", "ne", "nort", "s"], [[0, 0, 0, 0], [0, 0, 0, 0], [0, 0, 0, 1]]),
        ])
        told = layers(what="measure", column=2, row=1, layer=0, book=BOOK, plan=PLAN)
        self.assertEqual(told[0][2], [[107, 0, 0, 0], [0, 0, 0, 0], [0, 3, 0, 0]])

    def test_against_a_second_count(self):
        chance = random.Random(173)
        for _ in range(150):
            plan = plan_of(*[chance.randint(2, 6) for _ in range(chance.randint(3, 4))])
            book = draw_book(chance, plan, chance.randint(0, 60), 0.2)
            for layer, row, column in itertools.permutations(range(len(plan)), 3):
                what = chance.choice(("count", "measure"))
                told = layers(plan, book, layer, row, column, what=what)
                self.assertEqual(len(told), len(plan[layer][1]))
                for code, table in zip(plan[layer][1], told):
                    self.assertIsNone(table_wrong(table))
                    chosen = [record for record in book if record[layer] == code]
                    self.assertEqual(table[2], second_count(plan, chosen, row, column, what))
                    self.assertEqual(table[:2], (list(plan[row][1]), list(plan[column][1])))
                # Added up they are the table of those that have an answer at the first sort.
                answering = [record for record in book if record[layer] is not None]
                self.assertEqual(added(told), table_of(plan, answering, row, column, what=what))
                if what == "count":
                    self.assertEqual(layers(plan, book, layer, row, column), told)

    def test_a_book_without_records(self):
        self.assertEqual(layers(PLAN, [], 1, 0, 2), [(["f", "m"], ["n", "ne", "nort", "s"], [[0] * 4] * 2)] * 3)


class Refusals(unittest.TestCase):
    CALLS = (
        lambda plan, book, row, column, last: table_of(plan, book, row, column, what=last),
        lambda plan, book, row, column, last: weighed_cells(plan, book, row, column, last),
        lambda plan, book, row, column, last: layers(plan, book, 2, row, column, what=last),
        lambda plan, book, row, column, last: layers(plan, book, row, 2, column, what=last),
        lambda plan, book, row, column, last: layers(plan, book, row, column, 2, what=last),
    )

    def each(self, expected, *things):
        for call in self.CALLS:
            self.assertEqual(refused_with(call, *things), expected, things)

    def test_no_sort(self):
        for number in NO_SORTS:
            for last in ("count", "nothing", None):
                self.each(NoSort, PLAN, BOOK, number, 1, last)
                self.each(NoSort, PLAN, BOOK, 0, number, last)
                self.each(NoSort, PLAN, BOOK, number, number, last)

    def test_one_sort_twice(self):
        for one in range(3):
            self.each(NoSort, PLAN, BOOK, one, one, "count")
        for layer, row, column in itertools.product(range(3), repeat=3):
            expected = None if len({layer, row, column}) == 3 else NoSort
            self.assertEqual(refused_with(layers, PLAN, BOOK, layer, row, column), expected)
        self.assertEqual(refused_with(table_of, SMALL, [], 0, 0), NoSort)
        self.assertEqual(refused_with(table_of, SMALL, [], 0, 1), NoSort)
        self.assertEqual(refused_with(table_of, WIDE, [], 0, 3), None)
        self.assertEqual(refused_with(layers, plan_of(2, 2), [], 0, 1, 2), NoSort)

    def test_no_what(self):
        for what in ("", "counts", "Count", "coun", "measures", "measure ", "both", "old"):
            self.assertEqual(refused_with(lambda: table_of(PLAN, BOOK, 0, 1, what=what)), NoWhat, what)
            self.assertEqual(refused_with(lambda: layers(PLAN, BOOK, 0, 1, 2, what=what)), NoWhat, what)

    def test_no_book(self):
        for book in (*ANYTHING, (), tuple(BOOK), BOOK * 8, [*BOOK, None], [("f", "old", "n", True)]):
            for number in (0, 9, None):
                self.each(NoBook, PLAN, book, number, 1, "count")
                self.each(NoBook, PLAN, book, number, number, None)

    def test_no_plan(self):
        for plan in ANYTHING:
            self.each(NoPlan, plan, BOOK, 0, 1, "count")
            self.each(NoPlan, plan, None, None, None, None)


if __name__ == "__main__":
    unittest.main()
