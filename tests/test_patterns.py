"""Points 23 to 26: guards, safe sheets and their papers, patterns and fewest ones."""

import itertools
import random
import unittest

from countveil.errors import NoGuards, NoSheet, TooGreat
from countveil.patterns import fewest, pattern, safe_judged, safe_paper, safe_wrong
from countveil.spans import sheet_wrong, spans
from tests.drawing import bent
from tests.samples import ANYTHING, refusal, refused_with
from tests.worlds import (
    CELLS, SHEET, all_worlds, draw_cells, draw_sheet, no_sheets, places_of, second_spans, sheet_look, world_look,
)

GUARDS = [(0, 1, 0, 2), (1, 1, 3, 0)]
NO_GUARD = (
    *ANYTHING, [], [1, 0, 1, 1], (1, 0, 1), (1, 0, 1, 1, 1), (1, 0, 0, 0), (1, 0, -1, 1), (1, 0, 1, -1), (1, 3, 1, 1),
    (3, 0, 1, 1), (-1, 0, 1, 1), (1, -1, 1, 1), (True, 0, 1, 1), (1, False, 1, 1), (1, 0, True, 1), (1, 0, 1, True),
    (1, 0, True, False), (1, 0, None, 1), (1, 0, 1, None), (1, 0, "1", 1), ((1, 0), 1, 1), ((1, 0), (1, 1)),
    (1, 0, (1,), 1), (1, [0], 1, 1), ("1", 0, 1, 1), (None, 0, 1, 1), (10 ** 29, 0, 1, 1), (1, 0, -1, 2), (1, 0, 2, -1),
)


def no_guards():
    """Things that are no guards of CELLS."""
    many = [(i, k, 1, 1) for i, k in places_of(CELLS)]
    return [
        *ANYTHING, (), tuple(GUARDS), many, [(0, 0, 1, 1), (0, 0, 2, 2)], [(0, 1, 1, 1), (0, 0, 1, 1)],
        [(1, 0, 1, 1), (0, 1, 1, 1)], [(0, 1, 1, 1), (1, 1, 1, 1), (1, 1, 1, 1)],
        *[[guard] for guard in NO_GUARD], *[[GUARDS[0], guard] for guard in NO_GUARD],
    ]


def meets(cells, guard, ends):
    """Whether a span is as wide as the guard asks."""
    i, k, below, above = guard
    return ends[0] <= cells[i][k] - below, ends[1] >= cells[i][k] + above


def safe_look(sheet, guards, ends):
    """What safe_wrong should tell, where ends are all spans."""
    cells, hidden = sheet
    for n, (i, k, below, above) in enumerate(guards):
        if (i, k) not in hidden:
            return ("told", n)
    for n, guard in enumerate(guards):
        least, greatest = ends[hidden.index(guard[:2])]
        low, high = meets(cells, guard, (least, greatest))
        if not low:
            return ("low", n, least)
        if not high:
            return ("high", n, greatest)
    return None


def paper_look(sheet, guards, thing):
    """What safe_judged should tell."""
    cells, hidden = sheet
    for n, (i, k, below, above) in enumerate(guards):
        if (i, k) not in hidden:
            return ("told", n)
    if thing.__class__ != list or len(thing) != len(guards):
        return ("paper",)
    if any(pair.__class__ != tuple or len(pair) != 2 for pair in thing):
        return ("paper",)
    for n, ((i, k, below, above), (one, other)) in enumerate(zip(guards, thing)):
        for word, world in (("low", one), ("high", other)):
            wrong = world_look(sheet, world)
            if wrong:
                return (word, n, wrong)
            number = world[i][k] - cells[i][k]
            if number > -below if word == "low" else number < above:
                return (word, n, None)
    return None


def draw_guards(chance, cells, most=8, wide=2):
    """At most so many guards of the cells, that ask for little."""
    places = places_of(cells)
    chosen = sorted(chance.sample(places, min(len(places), chance.randint(0, most))))
    drawn = [(i, k, chance.randint(0, min(wide, cells[i][k])), chance.randint(0, wide)) for i, k in chosen]
    return [guard for guard in drawn if guard[2] or guard[3]]


def draw_met_guards(chance, cells, most, share=0.7):
    """At most so many guards that are safe with all places hidden, by that share of what may be asked."""
    places = places_of(cells)
    ends = dict(zip(places, spans((cells, places))))
    drawn = []
    for i, k in sorted(chance.sample(places, min(len(places), chance.randint(1, most)))):
        below, above = cells[i][k] - ends[i, k][0], ends[i, k][1] - cells[i][k]
        if chance.random() > share:
            below, above = chance.randint(0, below), chance.randint(0, above)
        if below or above:
            drawn.append((i, k, below, above))
    return drawn


def is_safe(cells, guards, hidden):
    """Whether a hidden list is safe, by all worlds."""
    return safe_look((cells, hidden), guards, second_spans((cells, hidden))) is None


def second_fewest(cells, guards):
    """The first of the fewest hidden lists, by going through all of them."""
    places = places_of(cells)
    for many in range(len(places) + 1):
        for hidden in itertools.combinations(places, many):
            if is_safe(cells, guards, list(hidden)):
                return list(hidden)
    return None


class SafeWrong(unittest.TestCase):
    def test_some(self):
        for guards, told in (
            ([], None), (GUARDS, None), ([(0, 1, 0, 3)], None), ([(0, 1, 0, 4)], ("high", 0, 4)), ([(0, 1, 1, 0)], ("low", 0, 1)),
            ([(0, 0, 3, 0), (1, 0, 0, 3)], None), ([(0, 0, 4, 0)], ("low", 0, 0)), ([(0, 0, 3, 1)], ("high", 0, 3)),
            ([(0, 0, 4, 1), (0, 1, 1, 9)], ("low", 0, 0)), ([(0, 0, 3, 1), (0, 1, 1, 9)], ("high", 0, 3)),
            ([(0, 0, 3, 0), (0, 1, 1, 9)], ("low", 1, 1)), ([(0, 0, 3, 0), (0, 1, 0, 9)], ("high", 1, 4)),
            ([(0, 0, 9, 9), (0, 2, 1, 1)], ("told", 1)), ([(0, 2, 9, 9), (2, 2, 1, 1)], ("told", 0)),
            ([(0, 0, 10 ** 29, 0)], ("low", 0, 0)), ([(0, 0, 0, 10 ** 29)], ("high", 0, 3)),
        ):
            self.assertEqual(safe_wrong(SHEET, guards), told, guards)
        self.assertIsNone(safe_wrong(guards=GUARDS, sheet=SHEET))

    def test_with_below_more_than_the_worth_none_is(self):
        for i, k in places_of(CELLS):
            guards = [(i, k, CELLS[i][k] + 1, 0)]
            self.assertEqual(safe_wrong((CELLS, places_of(CELLS)), guards)[0], "low")
            self.assertIsNone(pattern(CELLS, guards))

    def test_against_all_worlds(self):
        chance = random.Random(230)
        seen = {}
        for _ in range(2500):
            sheet = draw_sheet(chance)
            guards = draw_guards(chance, sheet[0], 4, 3) if chance.random() < 0.5 else draw_met_guards(chance, sheet[0], 2, 0)
            if chance.random() < 0.7:
                guards = [guard for guard in guards if guard[:2] in sheet[1]]
            expected = safe_look(sheet, guards, second_spans(sheet))
            self.assertEqual(safe_wrong(sheet, guards), expected, (sheet, guards))
            paper = safe_paper(sheet, guards)
            if expected is None:
                self.assertIsNone(paper_look(sheet, guards, paper))
                self.assertIsNone(safe_judged(sheet, guards, paper))
            else:
                self.assertIsNone(paper)
            word = expected and expected[0] if guards else "no guards"
            seen[word] = seen.get(word, 0) + 1
        for word in (None, "told", "low", "high", "no guards"):
            self.assertGreater(seen[word], 50, seen)


class SafeJudged(unittest.TestCase):
    LOW, HIGH = [[0, 4, 2], [3, 2, 1], [4, 4, 4]], [[3, 1, 2], [0, 5, 1], [4, 4, 4]]

    def told(self, thing, guards=GUARDS):
        told = safe_judged(SHEET, guards, thing)
        self.assertEqual(told, paper_look(SHEET, guards, thing), thing)
        return told

    def test_right_ones(self):
        self.assertIsNone(self.told([(CELLS, self.LOW), (self.LOW, CELLS)]))
        self.assertIsNone(self.told(safe_paper(SHEET, GUARDS)))
        self.assertIsNone(self.told([], []))
        self.assertIsNone(safe_judged(thing=[], guards=[], sheet=SHEET))

    def test_told_goes_ahead(self):
        for thing in (*ANYTHING, [], [(CELLS, CELLS)]):
            self.assertEqual(self.told(thing, [(0, 0, 1, 0), (2, 2, 1, 0)]), ("told", 1))
            self.assertEqual(self.told(thing, [(0, 2, 1, 0), (2, 2, 1, 0)]), ("told", 0))

    def test_no_paper(self):
        pair = (CELLS, self.LOW)
        for thing in (
            *ANYTHING, (), [], [pair], [pair] * 3, (pair, pair), [pair, list(pair)], [pair, None], [pair, (CELLS,)],
            [pair, (*pair, CELLS)], [None, pair], [CELLS, CELLS], [pair, ()],
        ):
            self.assertEqual(self.told(thing), ("paper",), thing)
        self.assertEqual(self.told([pair], []), ("paper",))
        self.assertEqual(self.told(None, []), ("paper",))

    def test_worlds_that_are_none(self):
        right = [(CELLS, self.LOW), (self.LOW, CELLS)]
        for thing, wrong in (
            (None, ("world",)), ([[3, 1, 2], [0, 5, 2], [4, 4, 4]], ("cell", 1, 2)),
            ([[4, 1, 2], [0, 5, 1], [4, 4, 4]], ("row", 0)), ([[4, 0, 2], [0, 5, 1], [4, 4, 4]], ("column", 0)),
            ([[3, 1, 2], [0, 5, True], [4, 4, 4]], ("world",)),
        ):
            self.assertEqual(self.told([(thing, self.LOW), (self.LOW, CELLS)]), ("low", 0, wrong))
            self.assertEqual(self.told([(CELLS, thing), (self.LOW, CELLS)]), ("high", 0, wrong))
            self.assertEqual(self.told([right[0], (thing, thing)]), ("low", 1, wrong))
            self.assertEqual(self.told([right[0], (self.LOW, thing)]), ("high", 1, wrong))
            self.assertEqual(self.told([(thing, thing), (thing, thing)]), ("low", 0, wrong))

    def test_worlds_that_do_not_show_it(self):
        right = [(CELLS, self.LOW), (self.LOW, CELLS)]
        self.assertEqual(self.told([(self.LOW, self.LOW), right[1]]), ("low", 0, None))
        self.assertEqual(self.told([(CELLS, CELLS), right[1]]), ("high", 0, None))
        self.assertEqual(self.told([right[0], (CELLS, CELLS)]), ("low", 1, None))
        self.assertEqual(self.told([right[0], (self.LOW, self.LOW)]), ("high", 1, None))
        self.assertEqual(self.told([(CELLS, CELLS), (None, None)]), ("high", 0, None))

    def test_of_a_sheet_that_is_not_safe_none_is_let_by(self):
        self.assertEqual(self.told([(CELLS, self.LOW)], [(0, 1, 0, 4)]), ("high", 0, None))

    def test_bent_papers(self):
        chance = random.Random(240)
        seen = {}
        for _ in range(4000):
            sheet = draw_sheet(chance, share=0.9)
            guards = draw_guards(chance, sheet[0], 4)
            if chance.random() < 0.9:
                guards = [guard for guard in guards if guard[:2] in sheet[1]]
            worlds = all_worlds(sheet)
            paper = safe_paper(sheet, guards)
            if paper is None or chance.random() < 0.3:
                paper = [(chance.choice(worlds), chance.choice(worlds)) for _ in guards]
            thing = bent(chance, paper) if chance.random() < 0.7 else paper
            expected = paper_look(sheet, guards, thing)
            self.assertEqual(safe_judged(sheet, guards, thing), expected, (sheet, guards, thing))
            key = expected and (expected[0], expected[-1] is None)
            seen[key] = seen.get(key, 0) + 1
        for key in (None, ("told", False), ("paper", False), ("low", False), ("low", True), ("high", False), ("high", True)):
            self.assertGreater(seen[key], 30, seen)


class Pattern(unittest.TestCase):
    def check(self, cells, guards):
        """Whether a list is told; looked at by spans, which papers show."""
        places = places_of(cells)

        def safe(hidden):
            return safe_look((cells, hidden), guards, spans((cells, hidden))) is None

        told = pattern(cells, guards)
        if told is None:
            self.assertFalse(safe(places))
            return False
        self.assertTrue(safe(places))
        self.assertIsNone(sheet_wrong((cells, told)))
        self.assertTrue(safe(told))
        self.assertIsNone(safe_wrong((cells, told), guards))
        for place in told:
            self.assertFalse(safe([other for other in told if other != place]), (cells, guards, told, place))
        return True

    def test_against_all_worlds(self):
        chance = random.Random(250)
        seen = []
        for _ in range(200):
            cells = draw_cells(chance, chance.randint(1, 3), chance.randint(1, 3), 3)
            guards = chance.choice((draw_guards, draw_met_guards))(chance, cells, 3)
            told = pattern(cells, guards)
            places = places_of(cells)
            self.assertEqual(told is not None, is_safe(cells, guards, places))
            seen.append(told is not None)
            if told is not None:
                self.assertTrue(is_safe(cells, guards, told))
                for place in told:
                    self.assertFalse(is_safe(cells, guards, [other for other in told if other != place]))
        self.assertGreater(min(seen.count(True), seen.count(False)), 20)

    def test_of_all_sizes(self):
        chance = random.Random(251)
        seen = []
        for height in range(1, 7):
            for width in range(1, 7):
                for _ in range(4):
                    cells = draw_cells(chance, height, width, chance.choice((3, 50, 10 ** 9)))
                    seen.append(self.check(cells, chance.choice((draw_guards, draw_met_guards))(chance, cells, 4)))
        self.assertGreater(min(seen.count(True), seen.count(False)), 15)

    def test_six_rows_and_columns_with_eight_guards(self):
        chance = random.Random(252)
        for most in (3, 20, 10 ** 9):
            for _ in range(4):
                cells = draw_cells(chance, 6, 6, most)
                guards = draw_met_guards(chance, cells, 8)
                while len(guards) < 8:
                    guards = draw_met_guards(chance, cells, 8)
                self.assertTrue(self.check(cells, guards))

    def test_some(self):
        self.assertEqual(pattern(CELLS, []), [])
        self.assertIsNone(pattern([[5]], [(0, 0, 1, 0)]))
        self.assertIsNone(pattern([[5, 5, 5]], [(0, 0, 1, 0)]))
        self.assertEqual(pattern(guards=[(0, 0, 1, 0)], cells=[[1, 1], [1, 1]]), places_of([[1, 1]] * 2))
        self.assertIsNone(pattern([[1, 1], [1, 1]], [(0, 0, 2, 0)]))
        self.assertIsNone(pattern([[1, 1], [1, 1]], [(0, 0, 0, 2)]))

    def test_great_guards(self):
        self.assertIsNone(pattern(CELLS, [(0, 0, 10 ** 29, 10 ** 29)]))
        great = [[10 ** 9, 10 ** 9], [10 ** 9, 10 ** 9]]
        self.assertEqual(pattern(great, [(0, 0, 10 ** 9, 10 ** 9)]), places_of(great))
        self.assertIsNone(pattern(great, [(0, 0, 10 ** 9, 10 ** 9 + 1)]))


class Fewest(unittest.TestCase):
    def check(self, cells, guards):
        told = fewest(cells, guards)
        self.assertEqual(told, second_fewest(cells, guards), (cells, guards))
        other = pattern(cells, guards)
        self.assertEqual(told is None, other is None)
        if told is not None:
            self.assertLessEqual(len(told), len(other))
            for line in (0, 1):
                numbers = [place[line] for place in told]
                self.assertNotIn(1, [numbers.count(number) for number in numbers])
        return told

    def test_against_all_hidden_lists(self):
        chance = random.Random(253)
        lengths = []
        for _ in range(150):
            cells = draw_cells(chance, chance.choice((1, 2, 3, 3)), chance.choice((2, 3, 3)), 3)
            draw = chance.choice((draw_guards, draw_met_guards, draw_met_guards))
            told = self.check(cells, draw(chance, cells, 3))
            lengths.append(None if told is None else len(told))
        self.assertGreater(lengths.count(None), 20)
        for many in (4, 6):
            self.assertGreater(lengths.count(many), 3, lengths)
        self.assertGreater(max(many or 0 for many in lengths), 6)

    def test_long_ones_against_all_hidden_lists(self):
        chance = random.Random(254)
        for height, width in ((2, 4), (4, 2), (2, 5), (5, 2), (1, 6), (6, 1), (3, 4)):
            for _ in range(3):
                cells = draw_cells(chance, height, width, 2)
                self.check(cells, draw_met_guards(chance, cells, 2))

    def test_the_first_in_the_order_of_lists(self):
        cells = [[5, 5, 5], [5, 5, 5], [5, 5, 5]]
        self.assertEqual(fewest(cells, [(2, 2, 1, 1)]), [(0, 0), (0, 2), (2, 0), (2, 2)])
        self.assertEqual(fewest(cells, [(0, 0, 1, 1)]), [(0, 0), (0, 1), (1, 0), (1, 1)])
        self.assertEqual(fewest(cells, [(0, 1, 1, 1), (1, 2, 1, 1)]), [(0, 1), (0, 2), (1, 1), (1, 2)])
        self.assertEqual(fewest(guards=[], cells=cells), [])

    def test_sixteen_cells_against_spans(self):
        chance = random.Random(255)
        for height, width, many in ((4, 4, 1), (4, 4, 2), (4, 4, 8), (3, 5, 1), (5, 3, 3), (2, 6, 2), (6, 2, 2)):
            cells = draw_cells(chance, height, width, 9)
            guards = draw_met_guards(chance, cells, many, 1)
            told = fewest(cells, guards)
            self.assertIsNone(safe_wrong((cells, told), guards))
            self.assertLessEqual(len(told), len(pattern(cells, guards)))
            # None of the lists with one or two places less than these is safe.
            for out in itertools.chain(itertools.combinations(told, 1), itertools.combinations(told, 2)):
                self.assertIsNotNone(safe_wrong((cells, [place for place in told if place not in out]), guards))

    def test_all_lists_of_sixteen_cells(self):
        cells = [[3, 2, 4, 1], [2, 5, 2, 3], [1, 1, 6, 2], [4, 2, 1, 3]]
        guards = [(1, 2, 2, 10), (2, 1, 0, 6)]
        guarded = {(1, 2), (2, 1)}
        others = [place for place in places_of(cells) if place not in guarded]
        lists = [sorted([*chosen, *guarded]) for many in range(9) for chosen in itertools.combinations(others, many)]
        lists = sorted(lists, key=lambda hidden: (len(hidden), hidden))
        safe = next(hidden for hidden in lists if safe_wrong((cells, hidden), guards) is None)
        self.assertEqual(fewest(cells, guards), safe)
        self.assertEqual(len(safe), 10)

    def test_too_great(self):
        chance = random.Random(257)
        for height in range(1, 7):
            for width in range(1, 7):
                cells = draw_cells(chance, height, width, 3)
                expected = TooGreat if height * width > 16 else None
                self.assertEqual(refused_with(fewest, cells, []), expected)
                self.assertEqual(refused_with(fewest, cells, [(0, 0, 9, 9)]), expected)
                self.assertEqual(refused_with(fewest, cells, None), NoGuards)
                self.assertIsNone(refused_with(pattern, cells, []))


class Refusals(unittest.TestCase):
    def test_guards(self):
        for guards in no_guards():
            for call in (safe_wrong, safe_paper, lambda sheet, each: safe_judged(sheet, each, None)):
                self.assertEqual(refused_with(call, SHEET, guards), NoGuards, guards)
            for call in (pattern, fewest):
                self.assertEqual(refused_with(call, CELLS, guards), NoGuards, guards)

    def test_right_guards(self):
        places = places_of(CELLS)[:8]
        for guards in ([], [(i, k, 0, 1) for i, k in places], [(i, k, 10 ** 29, 0) for i, k in places]):
            for call in (safe_wrong, safe_paper, lambda sheet, each: safe_judged(sheet, each, None)):
                self.assertIsNone(refused_with(call, SHEET, guards))
            self.assertIsNone(refused_with(pattern, CELLS, guards))
            self.assertIsNone(refused_with(fewest, CELLS, guards))

    def test_no_sheet(self):
        for thing, wrong in no_sheets():
            for guards in ([], None, GUARDS):
                for call in (safe_wrong, safe_paper, lambda sheet, each: safe_judged(sheet, each, None)):
                    refused = refusal(call, thing, guards)
                    self.assertIsInstance(refused, NoSheet)
                    self.assertEqual(refused.wrong, wrong)

    def test_no_cells(self):
        things = [*ANYTHING, *[thing[0] for thing, wrong in no_sheets() if wrong == ("cells",)], (), (CELLS,), SHEET]
        for cells in things:
            wrong = sheet_look((cells, []))
            self.assertIn(wrong, (("sheet",), ("cells",)))
            for call in (pattern, fewest):
                for guards in ([], None, GUARDS):
                    refused = refusal(call, cells, guards)
                    self.assertIsInstance(refused, NoSheet)
                    self.assertEqual(refused.wrong, wrong, cells)


if __name__ == "__main__":
    unittest.main()
