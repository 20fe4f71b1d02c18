"""Sheets with hidden cells: their worlds, and how far each hidden cell is spanned, with papers for both ends."""

from countveil.errors import NoPlace, NoSheet
from countveil.kinds import are_rising_below, are_whole_numbers, is_grid, is_tuple_of, is_whole
from countveil.shifts import lines_not_reached, shifted
from countveil.tables import MOST_CELL, MOST_LABELS, column_sums, row_sums


def is_list_of_one_to_six(thing):
    """Whether it is a list of one to six things."""
    return isinstance(thing, list) and 1 <= len(thing) <= MOST_LABELS


def are_cells(thing):
    """Whether they are cells of a sheet."""
    if not is_list_of_one_to_six(thing) or not is_list_of_one_to_six(thing[0]):
        return False
    return is_grid(thing, len(thing), len(thing[0])) and max([max(row) for row in thing]) <= MOST_CELL


def is_place(cells, thing):
    """Whether it is a place of the cells."""
    if not is_tuple_of(thing, 2):
        return False
    i, k = thing
    return is_whole(i) and is_whole(k) and 0 <= i < len(cells) and 0 <= k < len(cells[0])


def sheet_wrong(thing):
    """None where it is a sheet, else the first that is wrong with it."""
    if not is_tuple_of(thing, 2):
        return ("sheet",)
    cells, hidden = thing
    if not isinstance(cells, list) or not isinstance(hidden, list):
        return ("sheet",)
    if not are_cells(cells):
        return ("cells",)
    for n, place in enumerate(hidden):
        if not is_place(cells, place) or (n > 0 and hidden[n - 1] >= place):
            return ("hidden", n)
    return None


def need_sheet(sheet):
    """Refuse what is no sheet, and tell what is wrong with it."""
    wrong = sheet_wrong(sheet)
    if wrong is not None:
        raise NoSheet(wrong)


def need_hidden(sheet, place):
    """Refuse what is no sheet, then what is no hidden place of it."""
    need_sheet(sheet)
    cells, hidden = sheet
    # A truth is like a number to Python: so the kinds are looked at, too.
    if not is_place(cells, place) or place not in hidden:
        raise NoPlace("this is no hidden place")


def first_unlike(ones, others):
    """The least place at which two lists are unlike; None where there is none."""
    for n, one in enumerate(ones):
        if one != others[n]:
            return n
    return None


def first_otherwise_told(sheet, world):
    """The least place of a told cell that is otherwise in the world; None where there is none."""
    cells, hidden = sheet
    for i, row in enumerate(cells):
        for k, cell in enumerate(row):
            if world[i][k] != cell and (i, k) not in hidden:
                return (i, k)
    return None


def wrong_in_world(sheet, thing):
    """What world_judged tells, of what is known to be a sheet."""
    cells = sheet[0]
    if not is_grid(thing, len(cells), len(cells[0])):
        return ("world",)
    place = first_otherwise_told(sheet, thing)
    if place is not None:
        return ("cell", *place)
    i = first_unlike(row_sums(cells), row_sums(thing))
    if i is not None:
        return ("row", i)
    k = first_unlike(column_sums(cells), column_sums(thing))
    return None if k is None else ("column", k)


def world_judged(sheet, thing):
    """None where it is a world of the sheet, else the first that is wrong with it."""
    need_sheet(sheet)
    return wrong_in_world(sheet, thing)


def lowest_world(sheet, place, most):
    """A world with the place's cell as much lower than it is as may be, but at most by most."""
    cells, hidden = sheet
    return shifted(cells, hidden, place, False, min(most, at_place(cells, place)))


def highest_world(sheet, place, most):
    """A world with the place's cell as much higher than it is as may be, but at most by most."""
    cells, hidden = sheet
    return shifted(cells, hidden, place, True, most)


def at_place(cells, place):
    """The number that stands at the place."""
    i, k = place
    return cells[i][k]


def end_worlds(sheet, place):
    """A world with the least number at the hidden place, and one with the greatest."""
    # No cell is raised by more than its row has in all, nor lowered by more.
    most = sum(sheet[0][place[0]])
    return (lowest_world(sheet, place, most), highest_world(sheet, place, most))


def span_at(sheet, place):
    """The span of what is known to be a hidden place."""
    low, high = end_worlds(sheet, place)
    return (at_place(low, place), at_place(high, place))


def span(sheet, place):
    """The least and the greatest number that the hidden place has in any world."""
    need_hidden(sheet, place)
    return span_at(sheet, place)


def spans(sheet):
    """The spans of all hidden places, in order."""
    need_sheet(sheet)
    return [span_at(sheet, place) for place in sheet[1]]


def span_paper(sheet, place):
    """Worlds with the least and the greatest number at the hidden place, and what shows that none has less, or more."""
    need_hidden(sheet, place)
    hidden = sheet[1]
    low, high = end_worlds(sheet, place)
    floor = lines_not_reached(low, hidden, place, False) if at_place(low, place) > 0 else None
    return (low, high, floor, lines_not_reached(high, hidden, place, True))


def are_two_lists_of_numbers(thing):
    """Whether it is a tuple of two lists of whole numbers."""
    return is_tuple_of(thing, 2) and all(are_whole_numbers(each) for each in thing)


def is_paper_by_form(thing):
    """Whether it is a tuple of four, the last two by their form a floor, or None, and a lid."""
    if not is_tuple_of(thing, 4):
        return False
    low, high, floor, lid = thing
    return are_two_lists_of_numbers(lid) and (floor is None or are_two_lists_of_numbers(floor))


def are_lines(cells, lines):
    """Whether two lists of whole numbers are rows' and columns' numbers of the cells, rising."""
    rows, columns = lines
    return are_rising_below(rows, len(cells)) and are_rising_below(columns, len(cells[0]))


def places_by(cells, lines, row_in, column_in):
    """All places whose row is in the rows, or isn't (row_in), and whose column is in the columns, or isn't."""
    rows, columns = lines
    return [
        (i, k) for i, row in enumerate(cells) for k in range(len(row))
        if (i in rows) == row_in and (k in columns) == column_in
    ]


def told_sum(sheet, places):
    """What the told cells at these places come to."""
    cells, hidden = sheet
    return sum(at_place(cells, place) for place in places if place not in hidden)


def told_by(sheet, lines):
    """What a lid of these rows and columns tells; a floor tells just as much below 0."""
    cells = sheet[0]
    rows, columns = lines
    row_totals, column_totals = row_sums(cells), column_sums(cells)
    whole = sum(row_totals[i] for i in rows) - sum(column_totals[k] for k in columns)
    beside = told_sum(sheet, places_by(cells, lines, True, False))
    return whole - beside + told_sum(sheet, places_by(cells, lines, False, True))


def hidden_against(sheet, lines):
    """The hidden places whose row isn't in the rows, but whose column is in the columns."""
    cells, hidden = sheet
    return [place for place in places_by(cells, lines, False, True) if place in hidden]


def is_lid_of(sheet, place, lines, number):
    """Whether two lists of whole numbers are a lid of the hidden place that tells the number."""
    i, k = place
    rows, columns = lines
    if not are_lines(sheet[0], lines) or i not in rows or k in columns:
        return False
    return hidden_against(sheet, lines) == [] and told_by(sheet, lines) == number


def is_floor_of(sheet, place, lines, number):
    """Whether two lists of whole numbers are a floor of the hidden place that tells the number."""
    # The hidden place itself stands against the rows and columns just where its row isn't in them and its column is.
    if not are_lines(sheet[0], lines) or hidden_against(sheet, lines) != [place]:
        return False
    return told_by(sheet, lines) == -number


def is_least_shown(sheet, place, floor, least):
    """Whether the floor, None or two lists of whole numbers, shows that no world has less there."""
    if floor is None:
        return least == 0
    return is_floor_of(sheet, place, floor, least)


def span_judged(sheet, place, paper):
    """None where the paper shows the span of the hidden place, else the first that is wrong with it."""
    need_hidden(sheet, place)
    if not is_paper_by_form(paper):
        return ("paper",)
    low, high, floor, lid = paper
    for word, world in (("low", low), ("high", high)):
        wrong = wrong_in_world(sheet, world)
        if wrong is not None:
            return (word, wrong)
    if not is_least_shown(sheet, place, floor, at_place(low, place)):
        return ("floor",)
    if not is_lid_of(sheet, place, lid, at_place(high, place)):
        return ("lid",)
    return None
