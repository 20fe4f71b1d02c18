"""Seasons of a series: what is taken out of rows of numbers, one for each time."""

from countveil.errors import NoPattern, NoSeries, NoYear, TooGreat
from countveil.kinds import are_whole_numbers, is_whole_within
from countveil.ratios import NOUGHT, are_fractions, fraction, less, mean_of, sum_of

LEAST_SERIES = 4
MOST_SERIES = 120
MOST_NUMBER = 10 ** 6
LEAST_YEAR = 2
MOST_YEAR = 12


def are_within(numbers):
    """Whether no number lies beyond what a series may have, or below."""
    return all(-MOST_NUMBER <= number <= MOST_NUMBER for number in numbers)


def is_series(thing):
    """Whether it is a series."""
    return are_whole_numbers(thing) and LEAST_SERIES <= len(thing) <= MOST_SERIES and are_within(thing)


def need_year(series, year):
    """Refuse what is no series, then what is no year of it."""
    if not is_series(series):
        raise NoSeries("this is no series")
    if not is_whole_within(year, LEAST_YEAR, MOST_YEAR) or 2 * year > len(series):
        raise NoYear("this is no year of the series")


def mean_round(numbers, year):
    """The mean of a year's numbers, of which there is an odd count; for an even year the ends count half."""
    if year % 2 == 1:
        return fraction(sum(numbers), year)
    return fraction(2 * sum(numbers) - numbers[0] - numbers[-1], 2 * year)


def trend_of(series, year):
    """What trend tells, of what is known not to be refused."""
    half = year // 2
    means = [mean_round(series[i - half:i + half + 1], year) for i in range(half, len(series) - half)]
    ends = [None] * half
    return [*ends, *means, *ends]


def trend(series, year):
    """The mean round each time; None at times that have none."""
    need_year(series, year)
    return trend_of(series, year)


def beside_trend(series, year, k):
    """The numbers at the times of place k in the year that have a mean round, less this mean."""
    means = trend_of(series, year)
    return [less((series[i], 1), means[i]) for i in range(k, len(series), year) if means[i] is not None]


def seasons_of(series, year):
    """What seasons tells, of what is known not to be refused."""
    means = [mean_of(beside_trend(series, year, k)) for k in range(year)]
    whole = mean_of(means)
    return [less(mean, whole) for mean in means]


def seasons(series, year):
    """For each place in the year by how much its numbers lie beside the trend; they sum to 0."""
    need_year(series, year)
    return seasons_of(series, year)


def adjusted_of(series, year):
    """What adjusted tells, of what is known not to be refused."""
    parts = seasons_of(series, year)
    return [less((number, 1), parts[i % year]) for i, number in enumerate(series)]


def adjusted(series, year):
    """All numbers less the season of their time."""
    need_year(series, year)
    return adjusted_of(series, year)


def left_over(series, year):
    """The adjusted numbers less the trend; None where there is none."""
    need_year(series, year)
    means = trend_of(series, year)
    return [None if mean is None else less(number, mean) for number, mean in zip(adjusted_of(series, year), means)]


def seasons_judged(series, year, thing):
    """None where they are the seasons of the series, else the first that is wrong with them."""
    need_year(series, year)
    if not are_fractions(thing, year):
        return ("seasons",)
    if sum_of(thing) != NOUGHT:
        return ("sum",)
    right = seasons_of(series, year)
    for k in range(1, year):
        if less(thing[k], thing[0]) != less(right[k], right[0]):
            return ("part", k)
    return None


def year_sums(series, year):
    """The sums of the numbers of each whole year, one behind the other."""
    need_year(series, year)
    return [sum(series[begin:begin + year]) for begin in range(0, len(series) - year + 1, year)]


def with_pattern(series, year, pattern):
    """The series with the pattern's number of its time added to each."""
    need_year(series, year)
    if not are_whole_numbers(pattern) or len(pattern) != year:
        raise NoPattern("this is no pattern of the year")
    raised = [number + pattern[i % year] for i, number in enumerate(series)]
    if not are_within(raised):
        raise TooGreat("a number would be too great, or too small")
    return raised
