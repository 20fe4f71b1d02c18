"""Tables of books: how many records have two codes, what their measures or weights come to."""

from countveil.errors import NoSort, NoWeights, NoWhat
from countveil.kinds import is_whole_within
from countveil.plans import need_plan
from countveil.ratios import are_fractions, sum_of
from countveil.records import need_book

COUNT = "count"
MEASURE = "measure"


def are_unlike_sorts(plan, numbers):
    """Whether the things of a list are numbers of sorts of the plan, no two alike."""
    # Only whole numbers reach the set: other things may be lists, which no set can hold.
    return all(is_whole_within(s, 0, len(plan) - 1) for s in numbers) and len(set(numbers)) == len(numbers)


def need_sorts(plan, book, numbers):
    """Refuse what is no plan, then what is no book of it, then what are no numbers of unlike sorts."""
    need_plan(plan)
    need_book(plan, book)
    if not are_unlike_sorts(plan, numbers):
        raise NoSort("these are no numbers of unlike sorts")


def need_what(what):
    """Refuse what is neither of the two words."""
    if what != COUNT and what != MEASURE:
        raise NoWhat("neither count nor measure is asked")


def worths(book, what):
    """What each record counts: 1, or its measure."""
    return [1 if what == COUNT else record[-1] for record in book]


def in_cell(book, row, column, codes, worth):
    """Of the worths, one for each record, those of the records that have both codes in the two sorts."""
    return [each for record, each in zip(book, worth) if (record[row], record[column]) == codes]


def codes_of(plan, s):
    """The codes of the sort of that number, as a list."""
    return list(plan[s][1])


def cells_of(plan, book, row, column, worth):
    """For each code of the one sort, for each one of the other, the worths of the records that have both."""
    return [
        [in_cell(book, row, column, (one, other), worth) for other in codes_of(plan, column)]
        for one in codes_of(plan, row)
    ]


def table_counted(plan, book, row, column, what):
    """What table_of tells, of what is known not to be refused."""
    cells = cells_of(plan, book, row, column, worths(book, what))
    return (codes_of(plan, row), codes_of(plan, column), [[sum(cell) for cell in line] for line in cells])


def table_of(plan, book, row, column, *, what="count"):
    """The table of the codes of two sorts: how many records have both, or what their measures come to."""
    need_sorts(plan, book, [row, column])
    need_what(what)
    return table_counted(plan, book, row, column, what)


def weighed_cells(plan, book, row, column, weights):
    """For each code of the one sort, for each one of the other, what the weights of the records with both come to."""
    need_sorts(plan, book, [row, column])
    if not are_fractions(weights, len(book)):
        raise NoWeights("these are no weights of the book")
    return [[sum_of(cell) for cell in line] for line in cells_of(plan, book, row, column, weights)]


def layers(plan, book, layer, row, column, *, what="count"):
    """For each code of the first sort the table of the records that have it."""
    need_sorts(plan, book, [layer, row, column])
    need_what(what)
    return [
        table_counted(plan, [record for record in book if record[layer] == code], row, column, what)
        for code in codes_of(plan, layer)
    ]
