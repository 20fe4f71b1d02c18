"""Sheets drawn by chance, all their worlds, and second looks at worlds and sheets, apart from the program."""

import itertools

CELLS = [[3, 1, 2], [0, 5, 1], [4, 4, 4]]
HIDDEN = [(0, 0), (0, 1), (1, 0), (1, 1)]
SHEET = (CELLS, HIDDEN)


def draw_cells(chance, height, width, most):
    """Cells drawn by chance, some of them 0."""
    return [[chance.choice((0, chance.randint(0, most), chance.randint(0, most))) for _ in range(width)]
            for _ in range(height)]


def places_of(cells):
    """All places of the cells, in order."""
    return list(itertools.product(range(len(cells)), range(len(cells[0]))))


def draw_sheet(chance, height=3, width=3, most=3, share=None):
    """A sheet of at most so many rows and columns."""
    cells = draw_cells(chance, chance.randint(1, height), chance.randint(1, width), most)
    share = chance.choice((0.3, 0.6, 0.9, 1)) if share is None else share
    return (cells, [place for place in places_of(cells) if chance.random() < share])


def all_worlds(sheet):
    """Each world of a sheet of small cells."""
    cells, hidden = sheet
    rows = {i: sum(cells[i][k] for k in range(len(cells[0])) if (i, k) in hidden) for i in range(len(cells))}
    columns = {k: sum(cells[i][k] for i in range(len(cells)) if (i, k) in hidden) for k in range(len(cells[0]))}
    found = []

    def go_on(n, filled):
        if n == len(hidden):
            if not any(rows.values()) and not any(columns.values()):
                found.append([[filled.get((i, k), cells[i][k]) for k in range(len(cells[0]))] for i in range(len(cells))])
            return
        i, k = hidden[n]
        for number in range(min(rows[i], columns[k]) + 1):
            rows[i] -= number
            columns[k] -= number
            go_on(n + 1, {**filled, (i, k): number})
            rows[i] += number
            columns[k] += number

    go_on(0, {})
    return found


def second_spans(sheet):
    """The spans of all hidden places, by going through all worlds."""
    worlds = all_worlds(sheet)
    return [(min(world[i][k] for world in worlds), max(world[i][k] for world in worlds)) for i, k in sheet[1]]


def is_number(thing):
    return thing.__class__ == int


def world_look(sheet, thing):
    """What world_judged should tell."""
    cells, hidden = sheet
    height, width = len(cells), len(cells[0])
    if thing.__class__ != list or len(thing) != height:
        return ("world",)
    for row in thing:
        if row.__class__ != list or len(row) != width or not all(is_number(each) and each >= 0 for each in row):
            return ("world",)
    for i, k in places_of(cells):
        if (i, k) not in hidden and thing[i][k] != cells[i][k]:
            return ("cell", i, k)
    for i in range(height):
        if sum(thing[i]) != sum(cells[i]):
            return ("row", i)
    for k in range(width):
        if sum(row[k] for row in thing) != sum(row[k] for row in cells):
            return ("column", k)
    return None


def sheet_look(thing):
    """What sheet_wrong should tell."""
    if thing.__class__ != tuple or [each.__class__ for each in thing] != [list, list]:
        return ("sheet",)
    cells, hidden = thing
    if not 1 <= len(cells) <= 6 or {row.__class__ for row in cells} != {list}:
        return ("cells",)
    if not 1 <= len(cells[0]) <= 6 or {len(row) for row in cells} != {len(cells[0])}:
        return ("cells",)
    if not all(is_number(each) and 0 <= each <= 10 ** 9 for row in cells for each in row):
        return ("cells",)
    for n, place in enumerate(hidden):
        if place.__class__ != tuple or not all(map(is_number, place)) or place not in places_of(cells):
            return ("hidden", n)
        if n and not hidden[n - 1] < place:
            return ("hidden", n)
    return None


def no_sheets():
    """Things that are no sheets, with what is wrong."""
    great = [[0] * 7] * 2
    return [
        *[(thing, ("sheet",)) for thing in (
            None, True, 0, "", "ab", (), [], [CELLS, []], (CELLS,), (CELLS, [], []), (CELLS, ()), (CELLS, None),
            (tuple(CELLS), []), (None, []), (None, None), ("ab", "ab"), (CELLS, tuple(HIDDEN)), ((), ()), (3, []),
        )],
        *[((cells, hidden), ("cells",)) for hidden in ([], HIDDEN, [None]) for cells in (
            [], [[]], [[], []], great, [[0]] * 7, [[0, 1], [2]], [[0], [1, 2]], [[0, 1], (2, 3)], [(0, 1), [2, 3]],
            [[0, 1], None], [None], [0], ["ab"], [[0, -1]], [[0, 10 ** 9 + 1]], [[0, 10 ** 29]], [[0, True]],
            [[False]], [[0, None]], [["0"]], [[(1,)]], [[[1]]], [[0, 1], [2, "3"]],
        )],
        *[((CELLS, [*HIDDEN[:2], place, *HIDDEN]), ("hidden", 2)) for place in (
            None, True, 0, "ab", (), [1, 0], (1,), (1, 0, 0), (1, 3), (3, 0), (1, -1), (-1, 0), (0, 0), (0, 1), (1, True),
            (True, 0), (1, None), ("1", 0), ((1,), 0), ([1], [0]), (10 ** 29, 0), (1, 10 ** 29),
        )],
        ((CELLS, [(-1, 0)]), ("hidden", 0)), ((CELLS, [None, (0, 0)]), ("hidden", 0)),
        ((CELLS, [(0, 1), (0, 0), None]), ("hidden", 1)), ((CELLS, [(1, 0), (0, 2)]), ("hidden", 1)),
        ((CELLS, [(0, 0), (0, 1), (0, 1)]), ("hidden", 2)), ((CELLS, [*places_of(CELLS), (2, 2)]), ("hidden", 9)),
    ]
