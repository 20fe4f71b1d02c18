"""Weights of a book that meet known totals exactly and lie nearest to 1, or a bar where none meet them."""

from countveil.errors import NoKnown
from countveil.kinds import is_list_of_pairs, is_tuple_of, is_whole_within
from countveil.plans import need_plan
from countveil.ratios import NOUGHT, are_fractions, mixed, sum_of
from countveil.records import need_book
from countveil.solving import solution_or_bar

MOST_KNOWN = 8
MOST_TOTAL = 10 ** 6
BEGINNING_WEIGHT = (1, 1)


def is_margin(plan, thing):
    """Whether it is a margin of what is known to be a plan."""
    if not is_tuple_of(thing, 2):
        return False
    s, code = thing
    return is_whole_within(s, 0, len(plan) - 1) and code in plan[s][1]


def wrong_in_known(plan, thing):
    """What known_wrong tells, of what is known to be a plan."""
    if not is_list_of_pairs(thing) or not 1 <= len(thing) <= MOST_KNOWN:
        return ("known",)
    ahead = []
    for k, (margin, total) in enumerate(thing):
        if not is_margin(plan, margin) or margin in ahead or not is_whole_within(total, 0, MOST_TOTAL):
            return ("known", k)
        ahead.append(margin)
    return None


def known_wrong(plan, thing):
    """None where they are known totals of the plan, else the first that is wrong with them."""
    need_plan(plan)
    return wrong_in_known(plan, thing)


def need_known(plan, book, known):
    """Refuse what is no plan, then what is no book of it, then what are no known totals."""
    need_plan(plan)
    need_book(plan, book)
    if wrong_in_known(plan, known) is not None:
        raise NoKnown("these are no known totals of the plan")


def counts_in(record, margin):
    """Whether the record counts in the margin."""
    s, code = margin
    return record[s] == code


def those_counted(record, known, numbers):
    """Of the numbers, one for each known total, those in whose margins the record counts."""
    return [number for (margin, total), number in zip(known, numbers) if counts_in(record, margin)]


def counting_rows(book, known):
    """For each known total a row with 1 for each record that counts in its margin, 0 for each other one."""
    return [[int(counts_in(record, margin)) for record in book] for margin, total in known]


def multipliers_or_bar(book, known):
    """A tuple of multipliers that make weights that meet the known totals, and None; or of None, and a bar."""
    rows = counting_rows(book, known)
    # What multiplier m does to total k is how many records count in both: so the weights that are made
    # meet the totals where these equations hold, and they hold for some multipliers if any weights do.
    both = [[sum(a * b for a, b in zip(one, other)) for other in rows] for one in rows]
    lacking = [total - sum(row) for (margin, total), row in zip(known, rows)]
    return solution_or_bar(both, lacking, len(known))


def weight_made(record, known, numbers):
    """The weight that the multipliers make of the record."""
    return sum_of([BEGINNING_WEIGHT, *those_counted(record, known, numbers)])


def weights(plan, book, known):
    """The weights nearest to 1 that meet the known totals; None where none meet them."""
    need_known(plan, book, known)
    numbers, bar = multipliers_or_bar(book, known)
    if numbers is None:
        return None
    return [weight_made(record, known, numbers) for record in book]


def multipliers(plan, book, known):
    """Multipliers that make what weights tells; None where that is None."""
    need_known(plan, book, known)
    numbers, bar = multipliers_or_bar(book, known)
    return numbers


def are_weights_by_form(book, known, thing):
    """Whether it is a tuple of a list of a fraction for each record and one of one for each known total."""
    if not is_tuple_of(thing, 2):
        return False
    return are_fractions(thing[0], len(book)) and are_fractions(thing[1], len(known))


def weights_judged(plan, book, known, thing):
    """None where they are the weights and multipliers of them, else the first that is wrong with them."""
    need_known(plan, book, known)
    if not are_weights_by_form(book, known, thing):
        return ("weights",)
    told, numbers = thing
    for i, record in enumerate(book):
        if told[i] != weight_made(record, known, numbers):
            return ("made", i)
    for k, (margin, total) in enumerate(known):
        if sum_of([told[i] for i, record in enumerate(book) if counts_in(record, margin)]) != (total, 1):
            return ("met", k)
    return None


def weights_barred(plan, book, known):
    """A bar that shows that no weights meet the known totals; None where some do."""
    need_known(plan, book, known)
    numbers, bar = multipliers_or_bar(book, known)
    return bar


def bar_judged(plan, book, known, thing):
    """None where it is a bar for the known totals, else the first that is wrong with it."""
    need_known(plan, book, known)
    if not are_fractions(thing, len(known)):
        return ("bar",)
    for i, record in enumerate(book):
        if sum_of(those_counted(record, known, thing)) != NOUGHT:
            return ("record", i)
    if mixed(thing, [total for margin, total in known]) == NOUGHT:
        return ("totals",)
    return None
