"""Releases: sums of fine cells that were published, and which figures they fix, all of them together."""

from countveil.errors import Clash, NoFigure, NoNumber, NoRelease
from countveil.kinds import are_rising_below, are_whole_numbers, is_tuple_of, is_whole, is_whole_within
from countveil.ratios import NOUGHT, ONE, are_fractions, is_fraction, mixed, sum_of
from countveil.solving import eliminated, solution_or_bar, what_is_left

MOST_FINE = 36
MOST_PUBLISHED = 40


def are_fine_places(cells, thing):
    """Whether it is a list of one or more numbers of so many fine cells, rising, none twice."""
    return are_whole_numbers(thing) and len(thing) > 0 and are_rising_below(thing, cells)


def is_published_row(cells, thing):
    """Whether it is a published row of so many fine cells."""
    if not is_tuple_of(thing, 2):
        return False
    places, total = thing
    return are_fine_places(cells, places) and is_whole(total) and total >= 0


def wrong_in_release(cells, thing):
    """What release_wrong tells, of what is known to be a number of cells."""
    if not isinstance(thing, list) or len(thing) > MOST_PUBLISHED:
        return ("release",)
    for n, row in enumerate(thing):
        if not is_published_row(cells, row):
            return ("row", n)
    return None


def need_cells(cells):
    """Refuse what is no number of fine cells."""
    if not is_whole_within(cells, 1, MOST_FINE):
        raise NoNumber("this is no number of fine cells")


def need_release(cells, release):
    """Refuse what is no number of fine cells, then what is no release of so many."""
    need_cells(cells)
    if wrong_in_release(cells, release) is not None:
        raise NoRelease("this is no release")


def need_fine_figure(cells, figure):
    """Refuse what is no figure of so many fine cells."""
    if not are_fine_places(cells, figure):
        raise NoFigure("this is no figure of fine cells")


def release_wrong(cells, thing):
    """None where it is a release of so many fine cells, else the first that is wrong with it."""
    need_cells(cells)
    return wrong_in_release(cells, thing)


def marks(cells, places):
    """For each fine cell 1, where it is one of the places, else 0."""
    return [int(c in places) for c in range(cells)]


def marked_rows(cells, release):
    """The marks of each published row."""
    return [marks(cells, places) for places, total in release]


def totals_of(release):
    """The total of each published row."""
    return [total for places, total in release]


def columns_of(rows, many):
    """For each of so many columns of the rows what they have there."""
    return [[row[c] for row in rows] for c in range(many)]


def fixed(cells, release, figure):
    """Whether the release fixes the figure, with a mixture of published rows, or what shows that it doesn't."""
    need_release(cells, release)
    need_fine_figure(cells, figure)
    rows = marked_rows(cells, release)
    numbers, clash = solution_or_bar(rows, totals_of(release), cells)
    if clash is not None:
        return ("clash", clash)
    mixture, free = solution_or_bar(columns_of(rows, cells), marks(cells, figure), len(release))
    if free is not None:
        return ("free", free)
    return ("fixed", mixed(mixture, totals_of(release)), mixture)


def is_answer_by_form(cells, release, thing):
    """Whether it is an answer of fixed by its word, its kinds and lengths."""
    if is_tuple_of(thing, 3):
        word, worth, mixture = thing
        return word == "fixed" and is_fraction(worth) and are_fractions(mixture, len(release))
    if not is_tuple_of(thing, 2):
        return False
    word, fractions = thing
    if word == "free":
        return are_fractions(fractions, cells)
    return word == "clash" and are_fractions(fractions, len(release))


def wrong_in_mixture(cells, release, mixture, asked, worth):
    """What fixed_judged tells of a mixture that is to come to what is asked of each cell, the totals to the worth."""
    for c, column in enumerate(columns_of(marked_rows(cells, release), cells)):
        if mixed(mixture, column) != (asked[c], 1):
            return ("cell", c)
    return None if mixed(mixture, totals_of(release)) == worth else ("worth",)


def sum_at(fractions, places):
    """What the fractions at these places come to."""
    return sum_of([fractions[c] for c in places])


def wrong_in_free(release, figure, one):
    """What fixed_judged tells of a fraction for each cell that is to show that a figure is free."""
    for n, (places, total) in enumerate(release):
        if sum_at(one, places) != NOUGHT:
            return ("row", n)
    return None if sum_at(one, figure) == ONE else ("figure",)


def fixed_judged(cells, release, figure, thing):
    """None where it is an answer that shows what it says, else the first that is wrong with it."""
    need_release(cells, release)
    need_fine_figure(cells, figure)
    if not is_answer_by_form(cells, release, thing):
        return ("fixed",)
    if thing[0] == "free":
        return wrong_in_free(release, figure, thing[1])
    if thing[0] == "clash":
        return wrong_in_mixture(cells, release, thing[1], [0] * cells, ONE)
    return wrong_in_mixture(cells, release, thing[2], marks(cells, figure), thing[1])


def need_fine_figures(cells, figures):
    """Refuse what is no list of figures of so many fine cells."""
    if not isinstance(figures, list):
        raise NoFigure("this is no list of figures")
    for figure in figures:
        need_fine_figure(cells, figure)


def is_mixture(cells, leading, figure):
    """Whether the figure is a mixture of rows of which the leading ones with their columns are left."""
    left = what_is_left([*marks(cells, figure), 0], leading)
    return all(number == 0 for number in left[:cells])


def all_fixed(cells, release, figures):
    """The places of those figures that the release fixes, rising."""
    need_release(cells, release)
    need_fine_figures(cells, figures)
    rows = [[*marks(cells, places), total] for places, total in release]
    leading, left = eliminated(rows, cells)
    if any(row[cells] != 0 for row in left):
        raise Clash("this release is of no numbers at all")
    return [n for n, figure in enumerate(figures) if is_mixture(cells, leading, figure)]
