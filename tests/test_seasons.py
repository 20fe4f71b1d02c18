"""Points 36 to 38: series, their trend and their seasons."""

import random
import unittest
from fractions import Fraction

from countveil.errors import NoPattern, NoSeries, NoYear, TooGreat
from countveil.ratios import is_fraction
from countveil.seasons import adjusted, left_over, seasons, seasons_judged, trend, with_pattern, year_sums
from tests.drawing import bent
from tests.samples import ANYTHING, refused_with

SERIES = [3, 5, 1, 7, 4, 6, 2, 9, 5]
MOST = 10 ** 6
CALLS = (trend, seasons, adjusted, left_over, year_sums)
NO_SERIES = (
    *ANYTHING, [], [1, 2, 3], [0] * 121, tuple(SERIES), [1, 2, 3, MOST + 1], [1, 2, 3, -MOST - 1], [1, 2, 3, True],
    [False, 1, 2, 3], [1, 2, 3, None], [1, 2, 3, "4"], [1, 2, 3, (4,)], [1, 2, 3, [4]], "1234", [1, 2, 3, 10 ** 29],
)
NO_YEARS = (*[thing for thing in ANYTHING if thing.__class__ != int], 0, 1, -2, 13, 10 ** 29, True, False, "2", (2,), [2])


def draw_series(chance, many, most=50):
    return [chance.randint(-most, most) for _ in range(many)]


def draw_year(chance, many):
    return chance.randint(2, min(12, many // 2))


def draw_both(chance, most=50):
    many = chance.choice((4, 5, 6, 7, 24, 25, 36, 120, chance.randint(4, 120)))
    return draw_series(chance, many, most), draw_year(chance, many)


def second_trend(series, year):
    """The means round each time, by weights of each time."""
    found = []
    half = year // 2
    for i in range(len(series)):
        if i - half < 0 or i + half > len(series) - 1:
            found.append(None)
            continue
        sum_there = Fraction(0)
        for j in range(i - half, i + half + 1):
            weight = Fraction(1, 2) if year % 2 == 0 and abs(i - j) == half else 1
            sum_there += weight * series[j]
        found.append(sum_there / year)
    return found


def second_seasons(series, year):
    means = second_trend(series, year)
    beside = {k: [] for k in range(year)}
    for i, mean in enumerate(means):
        if mean is not None:
            beside[i % year].append(series[i] - mean)
    raw = [sum(beside[k]) / len(beside[k]) for k in range(year)]
    return [each - sum(raw) / year for each in raw]


def as_told(numbers):
    """Fractions as tuples."""
    return [None if number is None else (number.numerator, number.denominator) for number in numbers]


def numbers_of(told):
    """What was told as Python's fractions; looked at is that all are in lowest numbers."""
    assert all(each is None or is_fraction(each) for each in told)
    return [None if each is None else Fraction(*each) for each in told]


def judged_look(series, year, thing):
    """What seasons_judged should tell."""
    if thing.__class__ != list or len(thing) != year:
        return ("seasons",)
    for each in thing:
        if each.__class__ != tuple or [part.__class__ for part in each] != [int, int] or each[1] < 1:
            return ("seasons",)
        if as_told([Fraction(*each)]) != [each]:
            return ("seasons",)
    numbers = [Fraction(*each) for each in thing]
    if sum(numbers):
        return ("sum",)
    right = second_seasons(series, year)
    for k in range(1, year):
        if numbers[k] - numbers[0] != right[k] - right[0]:
            return ("part", k)
    return None


class Trend(unittest.TestCase):
    def test_an_odd_year(self):
        told = trend(SERIES, 3)
        self.assertEqual(told, [None, (3, 1), (13, 3), (4, 1), (17, 3), (4, 1), (17, 3), (16, 3), None])

    def test_an_even_year(self):
        told = trend(year=4, series=SERIES)
        self.assertEqual(told, [None, None, (33, 8), (35, 8), (37, 8), (5, 1), (43, 8), None, None])
        self.assertEqual(trend([1, 2, 3, 4], 2), [None, (2, 1), (3, 1), None])

    def test_drawn_ones(self):
        chance = random.Random(360)
        for _ in range(300):
            series, year = draw_both(chance, chance.choice((5, MOST)))
            self.assertEqual(trend(series, year), as_told(second_trend(series, year)))

    def test_none_at_both_ends(self):
        for year in range(2, 13):
            for many in (2 * year, 2 * year + 1, 120):
                told = trend([7] * max(many, 4), year)
                half = year // 2
                self.assertEqual(told, [None] * half + [(7, 1)] * (len(told) - 2 * half) + [None] * half)

    def test_shortest_and_longest_series(self):
        self.assertEqual(len(trend([MOST] * 4, 2)), 4)
        self.assertEqual(len(trend([-MOST] * 120, 12)), 120)
        self.assertEqual(trend([MOST] * 120, 11)[60], (MOST, 1))


class Refusals(unittest.TestCase):
    def test_no_series(self):
        for thing in NO_SERIES:
            for year in (2, None, thing):
                for call in CALLS:
                    self.assertEqual(refused_with(call, thing, year), NoSeries, thing)
                self.assertEqual(refused_with(seasons_judged, thing, year, None), NoSeries, thing)
                self.assertEqual(refused_with(with_pattern, thing, year, None), NoSeries, thing)

    def test_no_year(self):
        series = [0] * 120
        for year in NO_YEARS:
            for call in CALLS:
                self.assertEqual(refused_with(call, series, year), NoYear, year)
            self.assertEqual(refused_with(seasons_judged, series, year, None), NoYear, year)
            self.assertEqual(refused_with(with_pattern, series, year, None), NoYear, year)

    def test_just_two_years_and_less(self):
        for year in range(2, 13):
            just = [0] * (2 * year)
            for call in CALLS:
                self.assertIsNone(refused_with(call, just, year), year)
                if len(just) > 4:
                    self.assertEqual(refused_with(call, just[1:], year), NoYear, year)
                if year < 12:
                    self.assertEqual(refused_with(call, just, year + 1), NoYear, year)


class Seasons(unittest.TestCase):
    def test_some(self):
        self.assertEqual(seasons(SERIES, 4), [(-9, 16), (17, 16), (-51, 16), (43, 16)])
        self.assertEqual(seasons(year=2, series=[1, 2, 1, 2]), [(-1, 2), (1, 2)])

    def test_drawn_ones(self):
        chance = random.Random(370)
        for _ in range(300):
            series, year = draw_both(chance, chance.choice((5, MOST)))
            told = seasons(series, year)
            self.assertEqual(told, as_told(second_seasons(series, year)))
            self.assertEqual(sum(numbers_of(told)), 0)

    def test_adjusted_and_left_over(self):
        chance = random.Random(371)
        for _ in range(300):
            series, year = draw_both(chance, chance.choice((5, MOST)))
            parts, means = second_seasons(series, year), second_trend(series, year)
            without = [number - parts[i % year] for i, number in enumerate(series)]
            self.assertEqual(adjusted(series, year), as_told(without))
            rest = [None if mean is None else number - mean for number, mean in zip(without, means)]
            self.assertEqual(left_over(series, year), as_told(rest))
        self.assertEqual(adjusted(year=2, series=[1, 2, 1, 2]), [(3, 2)] * 4)
        self.assertEqual(left_over(year=2, series=[1, 2, 1, 2]), [None, (0, 1), (0, 1), None])

    def test_adjusted_numbers_of_a_year_sum_to_the_same(self):
        chance = random.Random(372)
        for _ in range(100):
            series, year = draw_both(chance)
            without = numbers_of(adjusted(series, year))
            begin = chance.randint(0, len(series) - year)
            self.assertEqual(sum(without[begin:begin + year]), sum(series[begin:begin + year]))


class SeasonsJudged(unittest.TestCase):
    def test_right_ones(self):
        chance = random.Random(373)
        for _ in range(100):
            series, year = draw_both(chance)
            self.assertIsNone(seasons_judged(series, year, seasons(series, year)))
        self.assertIsNone(seasons_judged(thing=[(-1, 2), (1, 2)], year=2, series=[1, 2, 1, 2]))

    def test_by_its_form(self):
        right = seasons(SERIES, 4)
        for thing in (
            *ANYTHING, [], tuple(right), right[:3], [*right, (0, 1)], [*right[:3], None], [*right[:3], [43, 16]],
            [*right[:3], (43, 16, 1)], [*right[:3], (86, 32)], [*right[:3], (-43, -16)], [*right[:3], (0, 0)],
            [*right[:3], 2], [*right[:3], (True, 1)], [*right[:3], (1, True)], [(0, 2)] * 4, [(0, 1), (0, 1), (0, 1), "0"],
        ):
            self.assertEqual(seasons_judged(SERIES, 4, thing), ("seasons",), thing)

    def test_the_order(self):
        one, two, three, four = seasons(SERIES, 4)
        self.assertEqual(seasons_judged(SERIES, 4, [(1, 1), two, three, four]), ("sum",))
        self.assertEqual(seasons_judged(SERIES, 4, [(0, 1)] * 4), ("part", 1))
        self.assertEqual(seasons_judged(SERIES, 4, [one, two, four, three]), ("part", 2))
        self.assertEqual(seasons_judged(SERIES, 4, [four, two, three, one]), ("part", 1))
        # By a half more and a half less at two places the second one of which is the last.
        self.assertEqual(seasons_judged(SERIES, 4, [one, two, (-43, 16), (35, 16)]), ("part", 2))

    def test_bent_ones(self):
        chance = random.Random(374)
        seen = {}
        for _ in range(3000):
            many = chance.randint(4, 12)
            series, year = draw_series(chance, many, 3), draw_year(chance, many)
            thing = seasons(series, year)
            if chance.random() < 0.4:
                thing = bent(chance, thing)
            else:
                chance.shuffle(thing)
            expected = judged_look(series, year, thing)
            self.assertEqual(seasons_judged(series, year, thing), expected, (series, year, thing))
            seen[expected and expected[0]] = seen.get(expected and expected[0], 0) + 1
        for word in (None, "seasons", "sum", "part"):
            self.assertGreater(seen[word], 60, seen)


class YearSums(unittest.TestCase):
    def test_some(self):
        self.assertEqual(year_sums(SERIES, 4), [16, 21])
        self.assertEqual(year_sums(SERIES, 3), [9, 17, 16])
        self.assertEqual(year_sums(year=2, series=SERIES[:4]), [8, 8])

    def test_drawn_ones(self):
        chance = random.Random(380)
        for _ in range(200):
            series, year = draw_both(chance, MOST)
            expected = {}
            for i, number in enumerate(series):
                expected[i // year] = expected.get(i // year, 0) + number
            self.assertEqual(year_sums(series, year), [expected[n] for n in range(len(series) // year)])


class WithPattern(unittest.TestCase):
    def test_some(self):
        self.assertEqual(with_pattern([1, 2, 3, 4, 5], 2, [10, -10]), [11, -8, 13, -6, 15])
        self.assertEqual(with_pattern(pattern=[0, 0], year=2, series=[1, 2, 3, 4]), [1, 2, 3, 4])

    def test_no_pattern(self):
        for thing in (
            *ANYTHING, [], [1], [1, 2, 3], (1, 2), [1, True], [False, 1], [1, None], [1, "2"], [1, (2,)], [[1], [2]], "12",
        ):
            self.assertEqual(refused_with(with_pattern, [MOST] * 4, 2, thing), NoPattern, thing)

    def test_at_the_greatest_and_beyond(self):
        series = [MOST - 5, -MOST + 5, 0, 0, 0]
        self.assertEqual(with_pattern(series, 2, [5, -5]), [MOST, -MOST, 5, -5, 5])
        for pattern in ([6, 0], [0, -6], [6, -6], [10 ** 29, 0], [0, -10 ** 29]):
            self.assertEqual(refused_with(with_pattern, series, 2, pattern), TooGreat, pattern)
        self.assertIsNone(refused_with(with_pattern, [0] * 4, 2, [MOST, -MOST]))
        self.assertEqual(refused_with(with_pattern, [0] * 4, 2, [0, MOST + 1]), TooGreat)
        self.assertEqual(refused_with(with_pattern, [0] * 4, 2, [-MOST - 1, 0]), TooGreat)

    def test_what_it_does_to_seasons(self):
        chance = random.Random(381)
        for _ in range(100):
            series, year = draw_both(chance)
            pattern = draw_series(chance, year - 1)
            pattern.append(-sum(pattern))
            raised = with_pattern(series, year, pattern)
            self.assertEqual(raised, [number + pattern[i % year] for i, number in enumerate(series)])
            self.assertEqual(trend(raised, year), trend(series, year))
            self.assertEqual(left_over(raised, year), left_over(series, year))
            ahead, behind = numbers_of(seasons(series, year)), numbers_of(seasons(raised, year))
            self.assertEqual([one + more for one, more in zip(ahead, pattern)], behind)
            same = with_pattern(series, year, [chance.randint(-9, 9)] * year)
            self.assertEqual(seasons(same, year), seasons(series, year))


if __name__ == "__main__":
    unittest.main()
