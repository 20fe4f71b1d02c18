"""Surveys: a plan, rules and a book, what was published of it, and all its vintages."""

from countveil.counting import codes_of
from countveil.mends import nothing_known
from countveil.records import fits, is_full, with_thing
from countveil.rules import all_codes, is_right
from countveil.tables import all_places, column_sums, row_sums


class Survey:
    """A survey as it is in one vintage. None is ever changed: a deed makes another one of it."""

    def __init__(self, plan, rules, book, ahead, shown=(), release=(), barred=()):
        self.plan = plan
        self.rules = rules
        self.book = book
        # The survey at the end of the vintage ahead, None in the first one.
        self.ahead = ahead
        self.age = 0 if ahead is None else ahead.age + 1
        # The publications of this vintage, all published rows in them, all their barred figures of fine cells.
        self.shown = shown
        self.release = release
        self.barred = barred


def with_book(survey, book):
    """The survey in a new vintage, with this book, of which nothing is out."""
    return Survey(survey.plan, survey.rules, book, survey)


def with_publication(survey, publication, release, barred):
    """The survey with one more publication, and all that is out of it and barred then."""
    shown = (*survey.shown, publication)
    return Survey(survey.plan, survey.rules, survey.book, survey.ahead, shown, release, barred)


def vintages_of(survey):
    """The survey at the end of each vintage, from the first on."""
    found = []
    while survey is not None:
        found.append(survey)
        survey = survey.ahead
    return found[::-1]


def faults_of(survey):
    """The numbers of the records that are barred or not whole, rising."""
    return [n for n, record in enumerate(survey.book) if not is_full(record) or not is_right(survey.rules, record)]


def own_release(release):
    """The release as new lists all the way down."""
    return [(list(places), total) for places, total in release]


def own_publication(publication):
    """The publication as new lists all the way down."""
    one, other, rows, row_totals, column_totals = publication
    return (one, other, [list(row) for row in rows], list(row_totals), list(column_totals))


def publication_of(one, other, cells, hidden):
    """What is published of the cells by two sorts with these places hidden."""
    rows = [[None if (i, k) in hidden else cell for k, cell in enumerate(row)] for i, row in enumerate(cells)]
    return (one, other, rows, row_sums(cells), column_sums(cells))


def fine_places(plan, codes):
    """The numbers of the fine cells with these codes; None asks nothing."""
    return [c for c, fine in enumerate(all_codes(plan)) if fits(fine, codes)]


def places_of_row(plan, one, i):
    """The numbers of the fine cells with the i-th code of sort one."""
    return fine_places(plan, with_thing(nothing_known(plan), one, codes_of(plan, one)[i]))


def places_of_cell(plan, one, other, place):
    """The numbers of the fine cells with the i-th code of sort one and the k-th one of the other, of a place (i, k)."""
    columns = places_of_row(plan, other, place[1])
    return [c for c in places_of_row(plan, one, place[0]) if c in columns]


def published_rows(plan, one, other, cells, hidden):
    """The published rows of the cells by two sorts with these places hidden: told cells, row and column totals."""
    told = [place for place in all_places(cells) if place not in hidden]
    return [
        *[(places_of_cell(plan, one, other, (i, k)), cells[i][k]) for i, k in told],
        *[(places_of_row(plan, one, i), total) for i, total in enumerate(row_sums(cells))],
        *[(places_of_row(plan, other, k), total) for k, total in enumerate(column_sums(cells))],
    ]
