"""Equations in whole numbers: exactly solved, or shown to have no solution.

An equation is a list of the whole numbers by which the unknowns are taken, and its side is
the whole number to which they are to come.
"""

from countveil.ratios import NOUGHT, fraction, greatest_divisor


def lowered(row):
    """The row divided by the greatest number that divides all of it, so that numbers stay small."""
    divisor = 0
    for number in row:
        divisor = greatest_divisor(divisor, number)
    if divisor < 2:
        return row
    return [number // divisor for number in row]


def cleared(row, pivot, column):
    """A mixture of both rows that has 0 at the column."""
    if row[column] == 0:
        return row
    return lowered([number * pivot[column] - other * row[column] for number, other in zip(row, pivot)])


def first_with(rows, column):
    """The place of the first row that has another number than 0 at the column; None where there is none."""
    for n, row in enumerate(rows):
        if row[column] != 0:
            return n
    return None


def eliminated(rows, many):
    """The rows with so many columns cleared.

    Told are tuples (column, row), each row the only one of all that is not 0 at its column,
    and the rows left, which are 0 at all of these columns.
    """
    leading = []
    left = rows
    for column in range(many):
        n = first_with(left, column)
        if n is not None:
            pivot = left[n]
            left = [cleared(row, pivot, column) for row in left[:n] + left[n + 1:]]
            leading = [(ahead, cleared(row, pivot, column)) for ahead, row in leading]
            leading.append((column, pivot))
    return (leading, left)


def what_is_left(row, leading):
    """The row with all leading columns cleared: only 0 just where it is a mixture of the leading rows."""
    for column, pivot in leading:
        row = cleared(row, pivot, column)
    return row


def with_origin(rows, sides):
    """Each row with its side behind it, and behind that by which numbers the first rows are mixed in it."""
    many = len(rows)
    return [[*row, sides[n], *[int(n == k) for k in range(many)]] for n, row in enumerate(rows)]


def solution_or_bar(rows, sides, many):
    """What so many unknowns may be, that all equations hold: a tuple (solution, None), a list of fractions.

    Where they can't, a tuple (None, bar): a list of a fraction for each equation, by which all
    of them together take each unknown 0 times, but their sides come to 1.
    """
    leading, left = eliminated(with_origin(rows, sides), many)
    for row in left:
        side = row[many]
        if side != 0:
            return (None, [fraction(number, side) for number in row[many + 1:]])
    solution = [NOUGHT] * many
    for column, row in leading:
        solution[column] = fraction(row[many], row[column])
    return (solution, None)
