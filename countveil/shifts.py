"""What is shifted among hidden cells, so that told cells and all totals stay.

Rows and columns are numbered together here, as LINES: rows first, columns behind them. A shift goes
from line to line over hidden cells: from a row to a column over a cell that it raises, from a column
to a row over one that it lowers, which must be above 0 for that. So what comes to a row, or to a
column, goes on from it, and its total stays.
"""


def ways_of(height, width, hidden):
    """For each line the lines to which a hidden cell leads from it."""
    ways = [[] for line in range(height + width)]
    for i, k in hidden:
        ways[i].append(height + k)
        ways[height + k].append(i)
    return ways


def other_ways(cells, hidden, place):
    """The ways of all hidden places but one, over which the shifts are to go that raise or lower it."""
    return ways_of(len(cells), len(cells[0]), [other for other in hidden if other != place])


def reached(world, ways, begin):
    """A dict of all lines that a shift comes to from one, each with the line ahead of it; None at the begin."""
    height = len(world)
    ahead = {begin: None}
    found = [begin]
    at = 0
    while at < len(found):
        line = found[at]
        at += 1
        for after in ways[line]:
            if after not in ahead and (line < height or world[after][line - height] > 0):
                ahead[after] = line
                found.append(after)
    return ahead


def steps_to(height, ahead, end):
    """The cells (i, k) that a shift on its way to the end raises, and those that it lowers."""
    raising = []
    lowering = []
    line = end
    while ahead[line] is not None:
        before = ahead[line]
        if before < height:
            raising.append((before, line - height))
        else:
            lowering.append((line, before - height))
        line = before
    return (raising, lowering)


def shift(world, raising, lowering, many):
    """Raise and lower these cells of the world by so many."""
    for i, k in raising:
        world[i][k] += many
    for i, k in lowering:
        world[i][k] -= many


def ends_of(cells, place, up):
    """The lines from which and to which a shift goes that lets the cell at the place be raised, or lowered."""
    i, k = place
    column = len(cells) + k
    return (column, i) if up else (i, column)


def shifted(cells, hidden, place, up, most):
    """New cells with the one at the place raised (up), or lowered, as far as may be, but at most by most.

    Each shift takes a shortest way, so that there are few of them however great the cells are.
    """
    world = [list(row) for row in cells]
    ways = other_ways(cells, hidden, place)
    begin, end = ends_of(cells, place, up)
    left = most
    while left > 0:
        ahead = reached(world, ways, begin)
        if end not in ahead:
            return world
        raising, lowering = steps_to(len(cells), ahead, end)
        many = min([left, *[world[i][k] for i, k in lowering]])
        shift(world, raising, lowering, many)
        shift(world, [place] if up else [], [] if up else [place], many)
        left -= many
    return world


def lines_not_reached(world, hidden, place, up):
    """The rows and the columns, two lists, that no shift comes to that would raise, or lower, the cell further."""
    height = len(world)
    begin, end = ends_of(world, place, up)
    ahead = reached(world, other_ways(world, hidden, place), begin)
    rows = [i for i in range(height) if i not in ahead]
    columns = [k for k in range(len(world[0])) if height + k not in ahead]
    return (rows, columns)
