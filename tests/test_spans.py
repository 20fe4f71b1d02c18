"""Points 19 to 22: sheets, worlds, spans, floors, lids and their papers."""

import itertools
import random
import unittest

from countveil.errors import NoPlace, NoSheet
from countveil.spans import sheet_wrong, span, span_judged, span_paper, spans, world_judged
from tests.drawing import bent
from tests.samples import ANYTHING, refusal, refused_with
from tests.worlds import (
    CELLS, SHEET, all_worlds, draw_cells, draw_sheet, is_number, no_sheets, places_of, second_spans, sheet_look,
    world_look,
)

NO_PLACES = (
    *ANYTHING, [], [0, 0], (0,), (0, 0, 0), (0, 2), (2, 0), (2, 2), (0, 3), (3, 0), (-1, 0), (0, -2), (-3, -3),
    (True, 0), (0, True), (False, False), (False, 0), (None, 0), (0, None), ("0", 0), ((0,), 0), ([0], 0), (10 ** 29, 0),
)


def told_of(sheet, lines):
    """What a lid by these rows and columns tells, in the words of point 21."""
    cells, hidden = sheet
    rows, columns = lines
    told = [place for place in places_of(cells) if place not in hidden]
    number = sum(sum(cells[i]) for i in rows) - sum(sum(row[k] for row in cells) for k in columns)
    number -= sum(cells[i][k] for i, k in told if i in rows and k not in columns)
    return number + sum(cells[i][k] for i, k in told if i not in rows and k in columns)


def lines_are_right(sheet, lines):
    """Whether two lists are numbers of rows and of columns, rising, none twice."""
    cells = sheet[0]
    for numbers, many in zip(lines, (len(cells), len(cells[0]))):
        if any(number not in range(many) for number in numbers) or sorted(set(numbers)) != numbers:
            return False
    return True


def is_lid(sheet, place, lines):
    rows, columns = lines
    if not lines_are_right(sheet, lines) or place[0] not in rows or place[1] in columns:
        return False
    return not any(i not in rows and k in columns for i, k in sheet[1])


def is_floor(sheet, place, lines):
    rows, columns = lines
    if not lines_are_right(sheet, lines) or place[0] in rows or place[1] not in columns:
        return False
    return not any(i not in rows and k in columns for i, k in sheet[1] if (i, k) != place)


def are_lines(thing):
    return thing.__class__ == tuple and [each.__class__ for each in thing] == [list, list] and all(
        all(map(is_number, each)) for each in thing
    )


def paper_look(sheet, place, paper):
    """What span_judged should tell."""
    if paper.__class__ != tuple or len(paper) != 4:
        return ("paper",)
    low, high, floor, lid = paper
    if not are_lines(lid) or not (floor is None or are_lines(floor)):
        return ("paper",)
    for word, world in (("low", low), ("high", high)):
        if world_look(sheet, world):
            return (word, world_look(sheet, world))
    i, k = place
    if floor is None:
        if low[i][k]:
            return ("floor",)
    elif not is_floor(sheet, place, floor) or -told_of(sheet, floor) != low[i][k]:
        return ("floor",)
    if not is_lid(sheet, place, lid) or told_of(sheet, lid) != high[i][k]:
        return ("lid",)
    return None


def subsets(numbers):
    return [list(chosen) for many in range(len(numbers) + 1) for chosen in itertools.combinations(numbers, many)]


def all_lines(cells):
    """All tuples of a list of rows and a list of columns, rising."""
    return list(itertools.product(subsets(range(len(cells))), subsets(range(len(cells[0])))))


class Sheets(unittest.TestCase):
    def test_right_ones(self):
        chance = random.Random(190)
        for height in range(1, 7):
            for width in range(1, 7):
                cells = draw_cells(chance, height, width, 10 ** 9)
                for hidden in ([], places_of(cells), sorted(chance.sample(places_of(cells), 1))):
                    self.assertIsNone(sheet_wrong((cells, hidden)))
        self.assertIsNone(sheet_wrong(thing=([[0]], [])))
        self.assertIsNone(sheet_wrong(([[10 ** 9]], [(0, 0)])))

    def test_wrong_ones(self):
        for thing, wrong in no_sheets():
            self.assertEqual(sheet_look(thing), wrong, thing)
            self.assertEqual(sheet_wrong(thing), wrong, thing)

    def test_anything(self):
        for thing in ANYTHING:
            for each in (thing, (thing, []), (CELLS, thing), ([thing], []), (CELLS, [thing]), ([[thing]], []), (thing, thing)):
                self.assertEqual(sheet_wrong(each), sheet_look(each), each)

    def test_bent_ones(self):
        chance = random.Random(191)
        seen = {}
        for _ in range(5000):
            thing = bent(chance, draw_sheet(chance, 6, 6, 10 ** 9))
            expected = sheet_look(thing)
            self.assertEqual(sheet_wrong(thing), expected, thing)
            seen[expected and expected[0]] = seen.get(expected and expected[0], 0) + 1
        for word in (None, "sheet", "cells", "hidden"):
            self.assertGreater(seen[word], 50, seen)

    def test_no_sheet_ahead_of_all_else(self):
        for thing, wrong in no_sheets():
            for call, more in ((span, 1), (spans, 0), (span_paper, 1), (world_judged, 1), (span_judged, 2)):
                for each in (None, (0, 0), CELLS):
                    refused = refusal(call, thing, *[each] * more)
                    self.assertIsInstance(refused, NoSheet)
                    self.assertEqual(refused.wrong, wrong)


class Worlds(unittest.TestCase):
    def test_all_worlds(self):
        chance = random.Random(200)
        for _ in range(150):
            sheet = draw_sheet(chance)
            for world in all_worlds(sheet):
                self.assertIsNone(world_judged(sheet, world))

    def test_some(self):
        self.assertIsNone(world_judged(SHEET, CELLS))
        self.assertIsNone(world_judged(thing=[[0, 4, 2], [3, 2, 1], [4, 4, 4]], sheet=SHEET))
        for world, wrong in (
            ([[3, 1, 2], [0, 5, 2], [4, 4, 4]], ("cell", 1, 2)), ([[3, 1, 1], [0, 5, 2], [4, 4, 4]], ("cell", 0, 2)),
            ([[9, 9, 2], [9, 9, 1], [4, 4, 5]], ("cell", 2, 2)), ([[3, 2, 2], [0, 5, 1], [4, 4, 4]], ("row", 0)),
            ([[3, 1, 2], [1, 5, 1], [4, 4, 4]], ("row", 1)), ([[2, 2, 2], [0, 5, 1], [4, 4, 4]], ("column", 0)),
            ([[2, 2, 2], [1, 5, 1], [4, 4, 4]], ("row", 1)), ([[4, 0, 2], [0, 5, 1], [4, 4, 4]], ("column", 0)),
        ):
            self.assertEqual(world_judged(SHEET, world), wrong, world)

    def test_no_world(self):
        rows = [list(row) for row in CELLS]
        for thing in (
            *ANYTHING, [], tuple(rows), rows[:2], [*rows, [0, 0, 0]], [rows[0], rows[1], tuple(rows[2])],
            [rows[0], rows[1], [4, 4]], [rows[0], rows[1], [4, 4, 4, 0]], [rows[0], [0, 5, True], rows[2]],
            [[3, 1, 2], [False, 5, 1], [4, 4, 4]], [[4, 0, 2], [-1, 6, 1], [4, 4, 4]], [[3, 1, 2], [0, 5, None], [4, 4, 4]],
            [[3, 1, 9], [0, 5, 1], [4, 4, "4"]], [[3, 1, 9], [0, 5, 1], None],
        ):
            self.assertEqual(world_judged(SHEET, thing), ("world",), thing)

    def test_numbers_of_whatever_size(self):
        great = 10 ** 29
        self.assertEqual(world_judged(SHEET, [[great, 1, 2], [0, 5, 1], [4, 4, 4]]), ("row", 0))
        self.assertEqual(world_judged(SHEET, [[3, 1, 2], [0, 5, 1], [4, 4, great]]), ("cell", 2, 2))
        # Two cells of 10 ** 9 may lie together in one.
        sheet = ([[10 ** 9, 10 ** 9], [10 ** 9, 10 ** 9]], places_of([[0, 0], [0, 0]]))
        self.assertIsNone(world_judged(sheet, [[2 * 10 ** 9, 0], [0, 2 * 10 ** 9]]))
        self.assertEqual(spans(sheet), [(0, 2 * 10 ** 9)] * 4)

    def test_bent_ones(self):
        chance = random.Random(201)
        seen = {}
        for _ in range(5000):
            sheet = draw_sheet(chance)
            world = chance.choice(all_worlds(sheet))
            thing = bent(chance, world)
            if chance.random() < 0.5:
                thing = [list(row) for row in world]
                for _ in range(chance.randint(1, 3)):
                    i, k = chance.choice(places_of(world))
                    thing[i][k] += 1
                    # Within a row its total stays.
                    other = i if chance.random() < 0.7 else chance.randrange(len(world))
                    thing[other][chance.randrange(len(world[0]))] -= 1
            expected = world_look(sheet, thing)
            self.assertEqual(world_judged(sheet, thing), expected, thing)
            seen[expected and expected[0]] = seen.get(expected and expected[0], 0) + 1
        for word in (None, "world", "cell", "row", "column"):
            self.assertGreater(seen[word], 50, seen)


class Spans(unittest.TestCase):
    def test_against_all_worlds(self):
        chance = random.Random(202)
        ends = []
        for _ in range(1200):
            sheet = draw_sheet(chance)
            told = spans(sheet)
            self.assertEqual(told, second_spans(sheet), sheet)
            self.assertEqual([span(sheet, place) for place in sheet[1]], told)
            ends += told
        self.assertGreater(sum(least > 0 for least, greatest in ends), 100)
        self.assertGreater(sum(least == greatest for least, greatest in ends), 100)

    def test_long_sheets_against_all_worlds(self):
        chance = random.Random(203)
        for height, width in ((1, 6), (6, 1), (2, 6), (6, 2), (2, 5), (4, 3)):
            for _ in range(25):
                cells = draw_cells(chance, height, width, 1)
                sheet = (cells, [place for place in places_of(cells) if chance.random() < 0.8])
                self.assertEqual(spans(sheet), second_spans(sheet), sheet)

    def test_some(self):
        self.assertEqual(spans(SHEET), [(0, 3), (1, 4), (0, 3), (2, 5)])
        self.assertEqual(span(place=(1, 1), sheet=SHEET), (2, 5))
        self.assertEqual(spans((CELLS, [])), [])
        self.assertEqual(spans(([[7]], [(0, 0)])), [(7, 7)])

    def test_a_hidden_place_alone_is_worked_out(self):
        self.assertEqual(spans((CELLS, [(0, 0), (0, 1), (1, 1)])), [(3, 3), (1, 1), (5, 5)])

    def test_no_place(self):
        for place in NO_PLACES:
            self.assertEqual(refused_with(span, SHEET, place), NoPlace, place)
            self.assertEqual(refused_with(span_paper, SHEET, place), NoPlace, place)
            for paper in (None, (), span_paper(SHEET, (0, 0))):
                self.assertEqual(refused_with(span_judged, SHEET, place, paper), NoPlace, place)
        self.assertEqual(refused_with(span, (CELLS, []), (0, 0)), NoPlace)
        self.assertEqual(refused_with(span, (CELLS, [(1, 1)]), (1, True)), NoPlace)


class Papers(unittest.TestCase):
    def check(self, sheet, place, ends):
        low, high, floor, lid = paper = span_paper(sheet, place)
        i, k = place
        self.assertIsNone(world_look(sheet, low))
        self.assertIsNone(world_look(sheet, high))
        self.assertEqual((low[i][k], high[i][k]), ends)
        if ends[0] == 0:
            self.assertIsNone(floor)
        else:
            self.assertTrue(is_floor(sheet, place, floor))
            self.assertEqual(-told_of(sheet, floor), ends[0])
        self.assertTrue(is_lid(sheet, place, lid))
        self.assertEqual(told_of(sheet, lid), ends[1])
        self.assertIsNone(paper_look(sheet, place, paper))
        self.assertIsNone(span_judged(sheet, place, paper))

    def test_of_small_sheets(self):
        chance = random.Random(210)
        for _ in range(600):
            sheet = draw_sheet(chance)
            for place, ends in zip(sheet[1], second_spans(sheet)):
                self.check(sheet, place, ends)

    def test_of_great_sheets(self):
        chance = random.Random(211)
        floors = 0
        for _ in range(60):
            cells = draw_cells(chance, chance.randint(3, 6), chance.randint(3, 6), chance.choice((5, 1000, 10 ** 9)))
            share = chance.choice((0.3, 0.5, 1))
            sheet = (cells, [place for place in places_of(cells) if chance.random() < share])
            for place, ends in zip(sheet[1], spans(sheet)):
                # The paper itself shows that the span is right.
                self.check(sheet, place, ends)
                floors += ends[0] > 0
        self.assertGreater(floors, 50)

    def test_by_names(self):
        paper = span_paper(place=(1, 1), sheet=SHEET)
        self.assertIsNone(span_judged(paper=paper, place=(1, 1), sheet=SHEET))

    def test_other_right_papers(self):
        chance = random.Random(212)
        others = 0
        for _ in range(120):
            sheet = draw_sheet(chance)
            worlds, lines = all_worlds(sheet), all_lines(sheet[0])
            for place, (least, greatest) in list(zip(sheet[1], second_spans(sheet)))[:3]:
                i, k = place
                lows = [world for world in worlds if world[i][k] == least]
                highs = [world for world in worlds if world[i][k] == greatest]
                lids = [each for each in lines if is_lid(sheet, place, each) and told_of(sheet, each) == greatest]
                floors = [each for each in lines if is_floor(sheet, place, each) and -told_of(sheet, each) == least]
                floors += [None] if least == 0 else []
                for _ in range(6):
                    paper = tuple(chance.choice(each) for each in (lows, highs, floors, lids))
                    self.assertIsNone(span_judged(sheet, place, paper))
                    others += paper != span_paper(sheet, place)
        self.assertGreater(others, 300)

    def test_all_floors_and_lids(self):
        chance = random.Random(213)
        seen = {}
        for _ in range(40):
            sheet = draw_sheet(chance)
            for place in sheet[1]:
                low, high, floor, lid = span_paper(sheet, place)
                for lines in all_lines(sheet[0]):
                    for paper in ((low, high, floor, lines), (low, high, lines, lid), (low, high, lines, lines)):
                        expected = paper_look(sheet, place, paper)
                        self.assertEqual(span_judged(sheet, place, paper), expected, (sheet, place, paper))
                        seen[expected] = seen.get(expected, 0) + 1
        for told in (None, ("floor",), ("lid",)):
            self.assertGreater(seen[told], 100, seen)

    def test_form(self):
        low, high, floor, lid = paper = span_paper(SHEET, (1, 1))
        for thing in (
            *ANYTHING, [], list(paper), paper[:3], (*paper, None), (low, high, floor, None), (low, high, floor, list(lid)),
            (low, high, floor, lid[:1]), (low, high, floor, (*lid, [])), (low, high, floor, (tuple(lid[0]), lid[1])),
            (low, high, floor, (lid[0], None)), (low, high, floor, ([True], lid[1])), (low, high, floor, (lid[0], [None])),
            (low, high, floor, (["0"], [])), (low, high, (), lid), (low, high, [], lid), (low, high, False, lid),
            (low, high, 0, lid), (low, high, ([],), lid), (low, high, ([], [False]), lid), (low, high, ([], ()), lid),
            (low, high, "", lid), (None, None, None, None), (None, None, ([], [[]]), ([], [])),
        ):
            self.assertEqual(span_judged(SHEET, (1, 1), thing), ("paper",), thing)

    def test_worlds_that_are_none(self):
        low, high, floor, lid = span_paper(SHEET, (1, 1))
        none = [[3, 1, 2], [0, 5, 2], [4, 4, 4]]
        for thing, wrong in (
            (None, ("world",)), ([], ("world",)), (tuple(low), ("world",)), (none, ("cell", 1, 2)),
            ([[4, 0, 2], [0, 5, 1], [4, 4, 4]], ("column", 0)), ([[4, 1, 2], [0, 5, 1], [4, 4, 4]], ("row", 0)),
        ):
            self.assertEqual(span_judged(SHEET, (1, 1), (thing, high, floor, lid)), ("low", wrong))
            self.assertEqual(span_judged(SHEET, (1, 1), (thing, None, None, lid)), ("low", wrong))
            self.assertEqual(span_judged(SHEET, (1, 1), (low, thing, floor, lid)), ("high", wrong))
            self.assertEqual(span_judged(SHEET, (1, 1), (low, thing, None, ([9], []))), ("high", wrong))

    def test_floors_that_are_none(self):
        low, high, floor, lid = span_paper(SHEET, (1, 1))
        self.assertEqual(low[1][1], 2)
        for thing in (
            None, ([], []), ([1], [1]), ([0, 2], []), ([2, 0], [1, 2]), ([0, 0, 2], [1, 2]), ([0, 2, 3], [1, 2]),
            ([-1, 0, 2], [1, 2]), ([0, 2], [1, 2, 3]), ([0, 2], [2, 1]), ([0, 2], [-2, 1, 2]), ([0, 2], [1, 1, 2]),
            ([10 ** 29], [1]),
        ):
            self.assertEqual(span_judged(SHEET, (1, 1), (low, high, thing, lid)), ("floor",), thing)
            self.assertEqual(span_judged(SHEET, (1, 1), (low, high, thing, ([], []))), ("floor",), thing)
        # A world that doesn't have the least number is shown by no floor.
        self.assertEqual(span_judged(SHEET, (1, 1), (CELLS, high, floor, lid)), ("floor",))

    def test_lids_that_are_none(self):
        low, high, floor, lid = span_paper(SHEET, (1, 1))
        for thing in (
            ([], []), ([1], [1]), ([0], []), ([1, 1], [2]), ([2, 1], [2]), ([1, 2], [2, 2]), ([1, 2], [3]), ([1, 2, 3], [2]),
            ([-2, 1, 2], [2]), ([1, 2], [-1, 2]), ([10 ** 29], []), ([0, 1, 2], []),
        ):
            self.assertEqual(span_judged(SHEET, (1, 1), (low, high, floor, thing)), ("lid",), thing)
        self.assertEqual(span_judged(SHEET, (1, 1), (low, low, floor, lid)), ("lid",))

    def test_a_floor_where_the_least_is_nought(self):
        sheet = ([[0, 2], [2, 0]], places_of([[0, 0], [0, 0]]))
        for place in sheet[1]:
            low, high, floor, lid = span_paper(sheet, place)
            self.assertIsNone(floor)
            floors = [each for each in all_lines(sheet[0]) if is_floor(sheet, place, each)]
            right = [each for each in floors if told_of(sheet, each) == 0]
            for each in floors:
                told = span_judged(sheet, place, (low, high, each, lid))
                self.assertEqual(told, None if each in right else ("floor",))

    def test_bent_papers(self):
        chance = random.Random(214)
        seen = {}
        for _ in range(5000):
            sheet = draw_sheet(chance, share=0.9)
            if sheet[1]:
                place = chance.choice(sheet[1])
                paper = bent(chance, span_paper(sheet, place))
                expected = paper_look(sheet, place, paper)
                self.assertEqual(span_judged(sheet, place, paper), expected, (sheet, place, paper))
                seen[expected and expected[0]] = seen.get(expected and expected[0], 0) + 1
        for word in (None, "paper", "low", "high", "floor", "lid"):
            self.assertGreater(seen[word], 30, seen)


if __name__ == "__main__":
    unittest.main()
