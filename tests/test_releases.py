"""Points 30 to 32: releases, and which figures they fix."""

import random
import time
import unittest
from fractions import Fraction

from countveil.errors import Clash, NoFigure, NoNumber, NoRelease
from countveil.releases import MOST_FINE, MOST_PUBLISHED, all_fixed, fixed, fixed_judged, release_wrong
from tests.drawing import bent
from tests.samples import ANYTHING, refusal, refused_with

RELEASE = [([0, 1], 5), ([1, 2], 7), ([0, 2], 4)]
FIGURE = [0, 1, 2]
NO_NUMBERS = (*[thing for thing in ANYTHING if thing.__class__ != int], 0, -1, 37, 10 ** 29, True, False, "3", (3,), [3])
NO_PLACES = (
    *ANYTHING, [], (0, 1), [0, 0], [1, 0], [0, 3], [-1], [3], [-1, 0], [0, True], [False], [True], [0, None], [0, "1"],
    [0, (1,)], [0, [1]], [[0]], [10 ** 29], "01", [0, 2, 1], [0, 1, 2, 3], [0, 1, 1], {},
)
NO_TOTALS = tuple(thing for thing in (*ANYTHING, -1, -(10 ** 29)) if thing.__class__ != int or thing < 0)


def draw_places(chance, cells, most=None):
    return sorted(chance.sample(range(cells), chance.randint(1, min(cells, most or cells))))


def draw_release(chance, cells, many, clash=0.0, most=None):
    """A release of numbers drawn by chance; by the chance of a clash a total of a row is another one."""
    numbers = [chance.randint(0, 20) for _ in range(cells)]
    release = []
    for _ in range(many):
        places = draw_places(chance, cells, most)
        if release and chance.random() < 0.2:
            places = list(chance.choice(release)[0])
        wrong = chance.choice((1, 2)) if chance.random() < clash else 0
        release.append((places, sum(numbers[c] for c in places) + wrong))
    return release


def rank(rows):
    """How many rows are left that are no mixtures of others; by fractions, apart from the program."""
    left = [[Fraction(each) for each in row] for row in rows]
    many = 0
    for column in range(len(rows[0]) if rows else 0):
        found = [row for row in left[many:] if row[column]]
        if found:
            pivot = found[0]
            left.remove(pivot)
            left.insert(many, pivot)
            for n in range(many + 1, len(left)):
                part = left[n][column] / pivot[column]
                left[n] = [a - part * b for a, b in zip(left[n], pivot)]
            many += 1
    return many


def marked(cells, places):
    return [int(c in places) for c in range(cells)]


def second_word(cells, release, figure):
    """Which word fixed should tell."""
    rows = [marked(cells, places) for places, total in release]
    if rank(rows) < rank([[*row, total] for row, (places, total) in zip(rows, release)]):
        return "clash"
    return "fixed" if rank([*rows, marked(cells, figure)]) == rank(rows) else "free"


def row_look(cells, row):
    if row.__class__ != tuple or len(row) != 2 or row[1].__class__ != int or row[1] < 0:
        return False
    return places_look(cells, row[0])


def places_look(cells, places):
    if places.__class__ != list or not places or any(each.__class__ != int for each in places):
        return False
    return places == [c for c in range(cells) if c in places]


def release_look(cells, thing):
    """What release_wrong should tell."""
    if thing.__class__ != list or len(thing) > 40:
        return ("release",)
    wrong = [n for n, row in enumerate(thing) if not row_look(cells, row)]
    return ("row", wrong[0]) if wrong else None


def is_lowest(thing):
    if thing.__class__ != tuple or [each.__class__ for each in thing] != [int, int] or thing[1] < 1:
        return False
    return (Fraction(*thing).numerator, Fraction(*thing).denominator) == thing


def are_lowest(thing, many):
    return thing.__class__ == list and len(thing) == many and all(map(is_lowest, thing))


def form_look(cells, release, thing):
    if thing.__class__ != tuple or not thing or thing[0] not in ("fixed", "free", "clash"):
        return False
    if thing[0] == "fixed":
        return len(thing) == 3 and is_lowest(thing[1]) and are_lowest(thing[2], len(release))
    return len(thing) == 2 and are_lowest(thing[1], cells if thing[0] == "free" else len(release))


def judged_look(cells, release, figure, thing):
    """What fixed_judged should tell."""
    if not form_look(cells, release, thing):
        return ("fixed",)
    numbers = [Fraction(*each) for each in thing[-1]]
    if thing[0] == "free":
        for n, (places, total) in enumerate(release):
            if sum(numbers[c] for c in places) != 0:
                return ("row", n)
        return None if sum(numbers[c] for c in figure) == 1 else ("figure",)
    for c in range(cells):
        asked = int(c in figure) if thing[0] == "fixed" else 0
        if sum(number for number, (places, total) in zip(numbers, release) if c in places) != asked:
            return ("cell", c)
    worth = Fraction(*thing[1]) if thing[0] == "fixed" else 1
    come = sum(number * total for number, (places, total) in zip(numbers, release))
    return None if come == worth else ("worth",)


class ReleaseWrong(unittest.TestCase):
    def test_the_numbers(self):
        self.assertEqual((MOST_FINE, MOST_PUBLISHED), (36, 40))

    def test_right_ones(self):
        self.assertIsNone(release_wrong(3, RELEASE))
        self.assertIsNone(release_wrong(thing=[], cells=1))
        self.assertIsNone(release_wrong(1, [([0], 10 ** 29), ([0], 0)]))
        self.assertIsNone(release_wrong(36, [(list(range(36)), 0), ([35], 1)]))
        chance = random.Random(300)
        for cells in range(1, 37):
            self.assertIsNone(release_wrong(cells, draw_release(chance, cells, 40)))

    def test_forty_rows_and_one_more(self):
        rows = [(list(range(36)), n) for n in range(41)]
        self.assertIsNone(release_wrong(36, rows[:40]))
        self.assertEqual(release_wrong(36, rows), ("release",))
        self.assertEqual(release_wrong(36, [None] * 41), ("release",))
        self.assertEqual(refused_with(fixed, 36, rows, [0]), NoRelease)
        self.assertIsNone(refused_with(fixed, 36, rows[:1] * 40, [0]))

    def test_no_list(self):
        for thing in ANYTHING:
            if thing.__class__ != list:
                self.assertEqual(release_wrong(3, thing), ("release",), thing)
        self.assertEqual(release_wrong(3, tuple(RELEASE)), ("release",))

    def test_a_row(self):
        right = ([0, 1], 5)
        rows = [*ANYTHING, list(right), (right[0],), (*right, 1), (5, [0, 1]), ([0, 1], "5")]
        rows += [(places, 5) for places in NO_PLACES] + [([0, 1], total) for total in NO_TOTALS]
        for row in rows:
            self.assertEqual(release_wrong(3, [row]), ("row", 0), row)
            self.assertEqual(release_wrong(3, [right, right, row, None]), ("row", 2), row)
            for call in (lambda *things: fixed(*things, [0]), lambda *things: all_fixed(*things, [])):
                self.assertEqual(refused_with(call, 3, [right, row]), NoRelease, row)

    def test_the_number_ahead_of_all(self):
        for cells in NO_NUMBERS:
            for thing in (RELEASE, None):
                self.assertEqual(refused_with(release_wrong, cells, thing), NoNumber, cells)
                self.assertEqual(refused_with(fixed, cells, thing, FIGURE), NoNumber, cells)
                self.assertEqual(refused_with(fixed_judged, cells, thing, None, None), NoNumber, cells)
                self.assertEqual(refused_with(all_fixed, cells, thing, [FIGURE]), NoNumber, cells)

    def test_bent_ones(self):
        chance = random.Random(301)
        seen = {}
        for _ in range(4000):
            cells = chance.randint(1, 36)
            thing = bent(chance, draw_release(chance, cells, chance.randint(0, 5)))
            expected = release_look(cells, thing)
            self.assertEqual(release_wrong(cells, thing), expected, thing)
            seen[expected and expected[0]] = seen.get(expected and expected[0], 0) + 1
        for word in (None, "release", "row"):
            self.assertGreater(seen[word], 100, seen)


class TellsFixed(unittest.TestCase):
    def look(self, cells, release, figure):
        told = fixed(cells, release, figure)
        self.assertEqual(told[0], second_word(cells, release, figure), (cells, release, figure))
        self.assertIsNone(judged_look(cells, release, figure, told), (cells, release, figure, told))
        self.assertIsNone(fixed_judged(cells, release, figure, told))
        return told

    def test_some(self):
        half = (1, 2)
        self.assertEqual(fixed(3, RELEASE, [0, 1, 2]), ("fixed", (8, 1), [half, half, half]))
        self.assertEqual(fixed(3, RELEASE, [0]), ("fixed", (1, 1), [half, (-1, 2), half]))
        self.assertEqual(self.look(cells=4, release=RELEASE, figure=[0, 3])[0], "free")
        self.assertEqual(self.look(2, [], [1])[0], "free")
        self.assertEqual(self.look(1, [([0], 3), ([0], 4)], [0])[0], "clash")
        self.assertEqual(self.look(2, [([0], 3), ([0], 4)], [1])[0], "clash")
        self.assertEqual(self.look(1, [([0], 3), ([0], 3)], [0])[:2], ("fixed", (3, 1)))
        # Of no whole numbers, but of numbers: no clash.
        self.assertEqual(self.look(3, [([0, 1], 1), ([1, 2], 1), ([0, 2], 1)], [0])[:2], ("fixed", (1, 2)))

    def test_drawn_ones(self):
        chance = random.Random(310)
        seen = {}
        for _ in range(700):
            cells = chance.choice((1, 2, 3, 4, 5, 6, 9))
            release = draw_release(chance, cells, chance.randint(0, cells + 2), chance.choice((0, 0.1, 0.3)), 4)
            word = self.look(cells, release, draw_places(chance, cells))[0]
            seen[word] = seen.get(word, 0) + 1
        for word in ("fixed", "free", "clash"):
            self.assertGreater(seen[word], 80, seen)

    def test_great_ones_are_told_soon(self):
        chance = random.Random(311)
        begin = time.perf_counter()
        seen = {}
        for many, clash in ((40, 0), (36, 0), (34, 0), (30, 0), (40, 0.02)):
            for _ in range(4):
                release = draw_release(chance, 36, many, clash)
                told = fixed(36, release, draw_places(chance, 36))
                seen[told[0]] = seen.get(told[0], 0) + 1
        self.assertLess(time.perf_counter() - begin, 20)
        self.assertGreater(len(seen), 1)
        chance = random.Random(311)
        release = draw_release(chance, 36, 40)
        self.look(36, release, [0])

    def test_totals_of_whatever_size(self):
        told = self.look(2, [([0], 10 ** 29), ([0, 1], 10 ** 30 - 1)], [1])
        self.assertEqual(told[1], (9 * 10 ** 29 - 1, 1))

    def test_no_figure(self):
        for thing in NO_PLACES:
            self.assertEqual(refused_with(fixed, 3, RELEASE, thing), NoFigure, thing)
            self.assertEqual(refused_with(fixed_judged, 3, RELEASE, thing, None), NoFigure, thing)
            self.assertEqual(refused_with(fixed, 3, [([0], 3), ([0], 4)], thing), NoFigure, thing)
            self.assertEqual(refused_with(fixed, 3, [None], thing), NoRelease, thing)


class FixedJudged(unittest.TestCase):
    def test_by_its_form(self):
        half = (1, 2)
        for thing in (
            *ANYTHING, ("fixed",), ("free",), ("clash",), ("fixed", (8, 1)), ["fixed", (8, 1), [half] * 3],
            ("fixed", 8, [half] * 3), ("fixed", (16, 2), [half] * 3), ("fixed", (8, 1), [half] * 2),
            ("fixed", (8, 1), [half] * 4), ("fixed", (8, 1), (half,) * 3), ("fixed", (8, 1), [half, half, 1]),
            ("fixed", (8, 1), [half, half, (2, 4)]), ("fixed", (8, 1), [half] * 3, None), ("fixed", None, [half] * 3),
            ("free", (8, 1), [half] * 3), ("clash", (8, 1), [half] * 3), ("free", [half] * 2), ("free", [half] * 4),
            ("clash", [half] * 2), ("clash", [half] * 4), ("clash", [half, half, (True, 1)]), ("Fixed", (8, 1), [half] * 3),
            ("free", [half, half, (1, -2)]), ("free", [half, half, (1, 0)]), (["free"], [half] * 3), (None, [half] * 3),
            ("free", [half] * 3, []), ("fixed", [half] * 3), ("fixed", (0, 2), [half] * 3),
        ):
            self.assertEqual(fixed_judged(3, RELEASE, FIGURE, thing), ("fixed",), thing)
        # As many as cells, and as many as rows, are not the same.
        self.assertEqual(fixed_judged(3, RELEASE[:2], FIGURE, ("clash", [half] * 3)), ("fixed",))
        self.assertEqual(fixed_judged(3, RELEASE[:2], FIGURE, ("free", [half] * 2)), ("fixed",))

    def test_each_word(self):
        half, one, nought = (1, 2), (1, 1), (0, 1)
        for thing, expected in (
            (("fixed", (8, 1), [half, half, half]), None),
            (("fixed", (9, 1), [half, half, half]), ("worth",)),
            (("fixed", (8, 1), [one, half, half]), ("cell", 0)),
            (("fixed", (8, 1), [half, one, half]), ("cell", 1)),
            (("fixed", (8, 1), [one, nought, nought]), ("cell", 2)),
            (("clash", [half, half, half]), ("cell", 0)),
            (("clash", [nought, nought, nought]), ("worth",)),
            (("free", [one, nought, nought]), ("row", 0)),
            (("free", [nought, nought, one]), ("row", 1)),
            (("free", [nought, nought, nought]), ("figure",)),
        ):
            self.assertEqual(fixed_judged(3, RELEASE, FIGURE, thing), expected, thing)
        self.assertIsNone(fixed_judged(figure=[0, 1, 2], thing=("free", [half, half, nought]), release=[], cells=3))
        self.assertEqual(fixed_judged(3, [], [0, 1, 2], ("free", [half, half, half])), ("figure",))

    def test_it_does_not_look_for_a_clash(self):
        release = [([0], 3), ([0], 4)]
        self.assertIsNone(fixed_judged(2, release, [0], ("fixed", (3, 1), [(1, 1), (0, 1)])))
        self.assertIsNone(fixed_judged(2, release, [0], ("fixed", (7, 2), [(1, 2), (1, 2)])))
        self.assertIsNone(fixed_judged(2, release, [1], ("free", [(0, 1), (1, 1)])))
        self.assertIsNone(fixed_judged(2, release, [1], ("clash", [(-1, 1), (1, 1)])))
        self.assertEqual(fixed_judged(2, release, [1], ("clash", [(1, 1), (-1, 1)])), ("worth",))

    def test_bent_ones(self):
        chance = random.Random(320)
        seen = {}
        for _ in range(6000):
            cells = chance.choice((2, 3, 4, 5))
            release = draw_release(chance, cells, chance.randint(0, 5), 0.2, 3)
            figure = draw_places(chance, cells)
            thing = fixed(cells, release, figure)
            if chance.random() < 0.3:
                figure = draw_places(chance, cells)
            elif chance.random() < 0.3 and release:
                n = chance.randrange(len(release))
                release[n] = (draw_places(chance, cells), release[n][1])
            else:
                thing = bent(chance, thing)
            expected = judged_look(cells, release, figure, thing)
            self.assertEqual(fixed_judged(cells, release, figure, thing), expected, (cells, release, figure, thing))
            seen[expected and expected[0]] = seen.get(expected and expected[0], 0) + 1
        for word in (None, "fixed", "cell", "worth", "row", "figure"):
            self.assertGreater(seen[word], 30, seen)

    def test_no_release(self):
        for thing in (None, [None], tuple(RELEASE), [([], 1)]):
            self.assertEqual(refused_with(fixed_judged, 3, thing, None, None), NoRelease)


class AllFixed(unittest.TestCase):
    def test_some(self):
        self.assertEqual(all_fixed(3, RELEASE, [[0], [0, 1, 2], [1, 2]]), [0, 1, 2])
        self.assertEqual(all_fixed(4, RELEASE, [[0], [3], [1, 2], [0, 3], [0]]), [0, 2, 4])
        self.assertEqual(all_fixed(figures=[], release=RELEASE, cells=3), [])
        self.assertEqual(all_fixed(2, [], [[0], [1], [0, 1]]), [])

    def test_drawn_ones(self):
        chance = random.Random(321)
        for _ in range(300):
            cells = chance.choice((1, 2, 3, 5, 8, 36))
            release = draw_release(chance, cells, chance.randint(0, min(cells, 12)), 0, 4)
            figures = [draw_places(chance, cells, 5) for _ in range(chance.randint(0, 8))]
            expected = [n for n, figure in enumerate(figures) if second_word(cells, release, figure) == "fixed"]
            self.assertEqual(all_fixed(cells, release, figures), expected, (cells, release, figures))

    def test_a_clash(self):
        clash = [([0], 3), ([0], 4)]
        self.assertEqual(refused_with(all_fixed, 3, clash, []), Clash)
        self.assertEqual(refused_with(all_fixed, 3, clash, [[0], [1]]), Clash)
        chance = random.Random(322)
        seen = {True: 0, False: 0}
        for _ in range(200):
            release = draw_release(chance, 4, 5, 0.15, 3)
            is_clash = second_word(4, release, [0]) == "clash"
            self.assertEqual(refused_with(all_fixed, 4, release, [[0]]), Clash if is_clash else None)
            seen[is_clash] += 1
        self.assertGreater(min(seen.values()), 30)

    def test_no_figure_ahead_of_a_clash(self):
        for release in (RELEASE, [([0], 3), ([0], 4)]):
            for thing in NO_PLACES:
                for figures in ([thing], [[0], thing, None], [thing, [0]]):
                    refused = refusal(all_fixed, 3, release, figures)
                    self.assertIsInstance(refused, NoFigure, thing)

    def test_no_release(self):
        for thing in (None, [None], tuple(RELEASE), [([], 1)], [([0], 1)] * 41):
            self.assertEqual(refused_with(all_fixed, 3, thing, [None]), NoRelease)


if __name__ == "__main__":
    unittest.main()
