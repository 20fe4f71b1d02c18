"""Roundings of tables to a base that still add up, and the nearest ones, with potentials that show it.

The cells and the totals of a table are taken here as FIGURES, in one order: the cells, the rows' totals, the
columns', the total of all. Each leads from a line to another one: lines are the rows, behind them the columns, then
one ahead of all rows, then one behind all columns. A cell leads from its row to its column, a row's total from the
line ahead to the row, a column's from the column to the line behind, the total of all from there to the line ahead:
so a table adds up where from each line goes what comes to it.
"""

from countveil.balancing import least_ups, line_costs
from countveil.errors import NoBase
from countveil.kinds import are_whole_numbers, is_grid, is_tuple_of, is_whole, is_whole_within
from countveil.tables import all_places, column_sums, need_table, row_sums

LEAST_BASE = 2
MOST_BASE = 1000


def need_base(table, base):
    """Refuse what is no table, then what is no base."""
    need_table(table)
    if not is_whole_within(base, LEAST_BASE, MOST_BASE):
        raise NoBase("this is no base")


def figure_places(cells):
    """The places of all figures."""
    return [
        *[("cell", *place) for place in all_places(cells)],
        *[("row", i) for i in range(len(cells))],
        *[("column", k) for k in range(len(cells[0]))],
        ("all",),
    ]


def figure_numbers(cells):
    """The numbers of all figures."""
    row_totals = row_sums(cells)
    return [*[cell for row in cells for cell in row], *row_totals, *column_sums(cells), sum(row_totals)]


def line_ahead(cells):
    """The number of the line ahead of all rows; the line behind all columns is the next one."""
    return len(cells) + len(cells[0])


def figure_ends(cells):
    """The lines from which and to which each figure leads, as tuples."""
    height, ahead = len(cells), line_ahead(cells)
    return [
        *[(i, height + k) for i, k in all_places(cells)],
        *[(ahead, i) for i in range(height)],
        *[(height + k, ahead + 1) for k in range(len(cells[0]))],
        (ahead + 1, ahead),
    ]


def has_labels_of(table, thing):
    """Whether it is a table with the labels of the other one, its cells from 0 on, of whatever size."""
    rows, columns, cells = table
    if not is_tuple_of(thing, 3) or thing[0] != rows or thing[1] != columns:
        return False
    return is_grid(thing[2], len(rows), len(columns))


def is_next_multiple(number, base, rounded):
    """Whether it is one of the two multiples of the base next to the number, or itself where that is one."""
    return rounded % base == 0 and abs(rounded - number) < base


def wrong_in_rounding(table, base, thing):
    """What rounding_wrong tells, of what is known to be a table and a base."""
    if not has_labels_of(table, thing):
        return ("table",)
    cells = table[2]
    for place, number, rounded in zip(figure_places(cells), figure_numbers(cells), figure_numbers(thing[2])):
        if not is_next_multiple(number, base, rounded):
            return place
    return None


def rounding_wrong(table, base, thing):
    """None where it is a rounding of the table to the base, else the first that is wrong with it."""
    need_base(table, base)
    return wrong_in_rounding(table, base, thing)


def moved(cells, rounded_cells):
    """What a rounding of these cells moves."""
    return sum(abs(rounded - number) for number, rounded in zip(figure_numbers(cells), figure_numbers(rounded_cells)))


def gain(number, base):
    """By how much more it moves a number that is no multiple to go to the multiple above, not below."""
    return base - 2 * (number % base)


def figure_ways(cells, base):
    """The figures as ways, in bases, from line to line."""
    return [
        (begin, end, number // base, None if number % base == 0 else gain(number, base))
        for (begin, end), number in zip(figure_ends(cells), figure_numbers(cells))
    ]


def rounded_by(cells, base, ups):
    """The cells rounded, each that has 1 in ups to the multiple above."""
    width = len(cells[0])
    return [
        [(cell // base + up) * base for cell, up in zip(row, ups[i * width:(i + 1) * width])]
        for i, row in enumerate(cells)
    ]


def potentials_by(cells, far):
    """Potentials from a number for each line, so that no turn from one to another costs less than they differ."""
    height, ahead = len(cells), line_ahead(cells)
    behind = far[ahead + 1]
    ys = [behind - each for each in far[:height]]
    zs = [each - behind for each in far[height:ahead]]
    return (ys, zs, behind - far[ahead])


def nearest(table, base):
    """A nearest rounding of the table to the base, what it moves, and potentials that show it."""
    need_base(table, base)
    rows, columns, cells = table
    lines = line_ahead(cells) + 2
    ways = figure_ways(cells, base)
    ups = least_ups(lines, ways)
    rounded = rounded_by(cells, base, ups)
    potentials = potentials_by(cells, line_costs(lines, ways, ups))
    return ((list(rows), list(columns), rounded), moved(cells, rounded), potentials)


def are_potentials_by_form(cells, thing):
    """Whether it is a tuple of a whole number for each row, one for each column, as two lists, and one."""
    if not is_tuple_of(thing, 3):
        return False
    ys, zs, w = thing
    if not are_whole_numbers(ys) or not are_whole_numbers(zs) or not is_whole(w):
        return False
    return (len(ys), len(zs)) == (len(cells), len(cells[0]))


def worths_of_figures(cells, base, potentials):
    """The worth of each figure by the potentials."""
    ys, zs, w = potentials
    beside = [*[-ys[i] - zs[k] for i, k in all_places(cells)], *[y - w for y in ys], *zs, w]
    return [gain(number, base) + more for number, more in zip(figure_numbers(cells), beside)]


def is_let_by(worth, number, rounded):
    """Whether the worth of a figure lets its number lie where it is rounded to."""
    return rounded == number or (worth <= 0 if rounded > number else worth >= 0)


def first_against_worth(cells, base, rounded_cells, potentials):
    """The first place at which a figure lies where its worth doesn't let it; None where there is none."""
    worths = worths_of_figures(cells, base, potentials)
    numbers, rounded = figure_numbers(cells), figure_numbers(rounded_cells)
    for n, place in enumerate(figure_places(cells)):
        if not is_let_by(worths[n], numbers[n], rounded[n]):
            return place
    return None


def nearest_judged(table, base, thing):
    """None where it is a nearest rounding with what it moves and potentials, else the first that is wrong with it."""
    need_base(table, base)
    cells = table[2]
    if not is_tuple_of(thing, 3) or not is_whole(thing[1]) or not are_potentials_by_form(cells, thing[2]):
        return ("nearest",)
    rounding, moves, potentials = thing
    wrong = wrong_in_rounding(table, base, rounding)
    if wrong is not None:
        return ("rounding", wrong)
    if moves != moved(cells, rounding[2]):
        return ("moves",)
    place = first_against_worth(cells, base, rounding[2], potentials)
    return None if place is None else ("worth", place)
