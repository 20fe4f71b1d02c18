"""Histories of a book, and figures of a plan that each of their deeds may change."""

from countveil.counting import COUNT, MEASURE, worths
from countveil.errors import NoFigure, NoHistory, NoStep
from countveil.kinds import is_tuple_of, is_whole_within
from countveil.plans import need_plan
from countveil.records import (
    MOST_RECORDS,
    are_codes,
    fits,
    is_number_in,
    is_record,
    is_thing_place,
    need_book,
    with_record_at,
    with_thing,
    without_record,
)

MOST_STEPS = 12
MOST_DEEDS = 10


def is_figure(plan, thing):
    """Whether it is a figure of what is known to be a plan."""
    if not is_tuple_of(thing, 2):
        return False
    codes, kind = thing
    return are_codes(plan, codes) and (kind == COUNT or kind == MEASURE)


def need_figure(plan, figure):
    """Refuse what is no figure of what is known to be a plan."""
    if not is_figure(plan, figure):
        raise NoFigure("this is no figure of the plan")


def worth_in(book, figure):
    """The figure's worth in the book."""
    codes, kind = figure
    return sum(worths([record for record in book if fits(record, codes)], kind))


def figure_of(plan, book, figure):
    """How many records of the book have the figure's codes, or what their measures come to."""
    need_plan(plan)
    need_book(plan, book)
    need_figure(plan, figure)
    return worth_in(book, figure)


def book_added(plan, book, things):
    """The book with a record more; None where the things aren't a record, or there is no room for it."""
    if len(things) != 1 or not is_record(plan, things[0]) or len(book) == MOST_RECORDS:
        return None
    return [*book, things[0]]


def book_dropped(plan, book, things):
    """The book without a record; None where the things aren't the number of one."""
    if len(things) != 1 or not is_number_in(book, things[0]):
        return None
    return without_record(book, things[0])


def book_fixed(plan, book, things):
    """The book with a thing of a record fixed; None where the things don't tell one that makes it a record."""
    if len(things) != 3:
        return None
    number, place, thing = things
    if not is_number_in(book, number) or not is_thing_place(plan, place):
        return None
    record = with_thing(book[number], place, thing)
    return with_record_at(book, number, record) if is_record(plan, record) else None


DEEDS_ON_BOOKS = {"add": book_added, "drop": book_dropped, "fix": book_fixed}


def book_behind(plan, book, deed):
    """The book behind the deed, a tuple with a text first; None where it is no deed on the book."""
    if deed[0] not in DEEDS_ON_BOOKS:
        return None
    done = DEEDS_ON_BOOKS[deed[0]]
    return done(plan, book, deed[1:])


def is_deed_by_form(thing):
    """Whether it is a tuple that has a text first."""
    return isinstance(thing, tuple) and len(thing) > 0 and isinstance(thing[0], str)


def is_step_by_form(thing):
    """Whether it is a list of at most ten tuples, each a text first."""
    return isinstance(thing, list) and len(thing) <= MOST_DEEDS and all(is_deed_by_form(deed) for deed in thing)


def is_history_by_form(thing):
    """Whether it is a list of at most twelve steps by their form."""
    return isinstance(thing, list) and len(thing) <= MOST_STEPS and all(is_step_by_form(step) for step in thing)


def wrong_in_history(plan, thing):
    """What history_wrong tells, of what is known to be a plan."""
    if not is_history_by_form(thing):
        return ("history",)
    book = []
    for s, step in enumerate(thing):
        for d, deed in enumerate(step):
            book = book_behind(plan, book, deed)
            if book is None:
                return ("deed", s, d)
    return None


def history_wrong(plan, thing):
    """None where it is a history of the plan, else the first that is wrong with it."""
    need_plan(plan)
    return wrong_in_history(plan, thing)


def need_history(plan, history):
    """Refuse what is no plan, then what is no history of it."""
    need_plan(plan)
    if wrong_in_history(plan, history) is not None:
        raise NoHistory("this is no history of the plan")


def book_behind_step(plan, book, step):
    """The book behind all deeds of the step, as a new list."""
    done = list(book)
    for deed in step:
        done = book_behind(plan, done, deed)
    return done


def books_done(plan, history):
    """What books_of tells, of what is known not to be refused."""
    books = [[]]
    for step in history:
        books.append(book_behind_step(plan, books[-1], step))
    return books


def books_of(plan, history):
    """The book without records, then the one behind each step."""
    need_history(plan, history)
    return books_done(plan, history)


def figures(plan, history, figure):
    """The figure's worth in each of these books."""
    need_history(plan, history)
    need_figure(plan, figure)
    return [worth_in(book, figure) for book in books_done(plan, history)]


def is_number_of_steps(history, thing):
    """Whether it is a number of steps done of the history."""
    return is_whole_within(thing, 0, len(history))


def need_steps(history, one, other):
    """Refuse what are no two numbers of steps done, one no more than other."""
    if not is_number_of_steps(history, one) or not is_number_of_steps(history, other) or one > other:
        raise NoStep("these are no two numbers of steps done")


def split(plan, history, figure, one, other):
    """The deeds between two numbers of steps done that change the figure, each with its change."""
    need_history(plan, history)
    need_figure(plan, figure)
    need_steps(history, one, other)
    book = books_done(plan, history[:one])[-1]
    found = []
    for s in range(one, other):
        for d, deed in enumerate(history[s]):
            behind = book_behind(plan, book, deed)
            change = worth_in(behind, figure) - worth_in(book, figure)
            if change != 0:
                found.append((s, d, change))
            book = behind
    return found


def rooted(found, deed, place):
    """The roots of each record behind the deed, which stands at that place, from those of each one ahead of it."""
    if deed[0] == "add":
        return [*found, [place]]
    number = deed[1]
    if deed[0] == "drop":
        return without_record(found, number)
    return with_record_at(found, number, [*found[number], place])


def roots(plan, history, many):
    """For each record of the book behind so many steps the deeds that added and fixed it."""
    need_history(plan, history)
    need_steps(history, many, len(history))
    found = []
    for s in range(many):
        for d, deed in enumerate(history[s]):
            found = rooted(found, deed, (s, d))
    return found
