"""Tables: labels of rows and columns, and cells that add up to totals."""

from countveil.errors import NoLots, NoTable, NoTables, TooGreat
from countveil.kinds import are_whole_numbers, is_list_of, is_tuple_of, is_whole_within
from countveil.plans import are_unlike_codes

MOST_CELL = 10 ** 9
MOST_LABELS = 6
MOST_TABLES = 6


def are_labels(thing):
    """Whether it is a list of one to six unlike CODES."""
    return isinstance(thing, list) and 1 <= len(thing) <= MOST_LABELS and are_unlike_codes(thing)


def wrong_in_cells(thing, height, width):
    """What table_wrong tells of the cells of a table of so many rows and columns."""
    if not is_list_of(thing, height):
        return ("cells",)
    for i, row in enumerate(thing):
        if not is_list_of(row, width):
            return ("row", i)
    for i, row in enumerate(thing):
        for k, cell in enumerate(row):
            if not is_whole_within(cell, 0, MOST_CELL):
                return ("cell", i, k)
    return None


def table_wrong(thing):
    """None where it is a table, else the first that is wrong with it."""
    if not is_tuple_of(thing, 3):
        return ("table",)
    rows, columns, cells = thing
    if not are_labels(rows):
        return ("rows",)
    if not are_labels(columns):
        return ("columns",)
    return wrong_in_cells(cells, len(rows), len(columns))


def need_table(table):
    """Refuse what is no table."""
    if table_wrong(table) is not None:
        raise NoTable("this is no table")


def row_sums(cells):
    """What each row's cells come to."""
    return [sum(row) for row in cells]


def turned(cells):
    """The cells with rows and columns exchanged."""
    return [list(column) for column in zip(*cells)]


def column_sums(cells):
    """What each column's cells come to."""
    return row_sums(turned(cells))


def all_places(cells):
    """All places of the cells, in order."""
    return [(i, k) for i, row in enumerate(cells) for k in range(len(row))]


def totals(table):
    """The totals of rows, those of columns, and that of all."""
    need_table(table)
    rows, columns, cells = table
    row_totals = row_sums(cells)
    return (row_totals, column_sums(cells), sum(row_totals))


def turned_table(table):
    """The table with rows and columns exchanged."""
    need_table(table)
    rows, columns, cells = table
    return (list(columns), list(rows), turned(cells))


def need_small_cells(cells):
    """Refuse cells of which one is too great for a table."""
    if max([max(row) for row in cells]) > MOST_CELL:
        raise TooGreat("a cell would be too great")


def are_tables_alike(thing):
    """Whether it is a list of one to six tables of the same labels."""
    if not isinstance(thing, list) or not 1 <= len(thing) <= MOST_TABLES:
        return False
    return all(table_wrong(table) is None and table[:2] == thing[0][:2] for table in thing)


def added(tables):
    """The table of the sums of the tables' cells."""
    if not are_tables_alike(tables):
        raise NoTables("these are no tables of the same labels")
    rows, columns, first = tables[0]
    cells = [[sum(table[2][i][k] for table in tables) for k in range(len(columns))] for i in range(len(rows))]
    need_small_cells(cells)
    return (list(rows), list(columns), cells)


def is_lot(thing):
    """Whether it is a list of one or more whole numbers."""
    return are_whole_numbers(thing) and len(thing) > 0


def are_lots(thing, many):
    """Whether it is a list of lots in which each number below many stands just once."""
    if not isinstance(thing, list) or not all(is_lot(lot) for lot in thing):
        return False
    return sorted([number for lot in thing for number in lot]) == list(range(many))


def first_labels(labels, lots):
    """The label of the first number of each lot."""
    return [labels[lot[0]] for lot in lots]


def summed(cells, row_lot, column_lot):
    """What the cells with a row in the one lot and a column in the other come to."""
    return sum(cells[i][k] for i in row_lot for k in column_lot)


def put_together(table, row_lots, column_lots):
    """The table of lots of the table's rows and columns."""
    need_table(table)
    rows, columns, cells = table
    if not are_lots(row_lots, len(rows)) or not are_lots(column_lots, len(columns)):
        raise NoLots("these are no lots of the table's rows and columns")
    lots = [[summed(cells, row_lot, column_lot) for column_lot in column_lots] for row_lot in row_lots]
    need_small_cells(lots)
    return (first_labels(rows, row_lots), first_labels(columns, column_lots), lots)
