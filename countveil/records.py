"""Records of a plan, and books of records."""

from countveil.errors import NoBook, NoCodes, NoRecord
from countveil.kinds import is_tuple_of, is_whole_within
from countveil.plans import need_plan

MOST_MEASURE = 10 ** 6
MOST_RECORDS = 60


def first_no_code(plan, things):
    """The least place at which neither a code of its sort nor None stands; None where there is none."""
    for k, (name, codes) in enumerate(plan):
        if things[k] is not None and things[k] not in codes:
            return k
    return None


def wrong_in_record(plan, thing):
    """What record_wrong tells, of what is known to be a plan."""
    if not is_tuple_of(thing, len(plan) + 1):
        return ("record",)
    k = first_no_code(plan, thing)
    if k is not None:
        return ("code", k)
    if not is_whole_within(thing[-1], 0, MOST_MEASURE):
        return ("measure",)
    return None


def is_record(plan, thing):
    """Whether it is a record of what is known to be a plan."""
    return wrong_in_record(plan, thing) is None


def is_full(record):
    """Whether no answer of the record is missing."""
    return None not in record


def with_thing(things, place, thing):
    """The tuple with the thing at the place instead of what stands there."""
    return (*things[:place], thing, *things[place + 1:])


def is_thing_place(plan, thing):
    """Whether it is a place of a record's things: a sort's number, or the number of sorts, for the measure."""
    return is_whole_within(thing, 0, len(plan))


def is_number_in(book, thing):
    """Whether it is the number of a record of the book."""
    return is_whole_within(thing, 0, len(book) - 1)


def without_record(book, number):
    """The book without the record of that number."""
    return [*book[:number], *book[number + 1:]]


def with_record_at(book, number, record):
    """The book with the record instead of the one of that number."""
    return [*book[:number], record, *book[number + 1:]]


def wrong_in_book(plan, thing):
    """What book_wrong tells, of what is known to be a plan."""
    if not isinstance(thing, list) or len(thing) > MOST_RECORDS:
        return ("book",)
    for i, record in enumerate(thing):
        wrong = wrong_in_record(plan, record)
        if wrong is not None:
            return ("record", i, wrong)
    return None


def are_codes(plan, thing):
    """Whether it is a tuple of a code of the sort, or None, for each sort."""
    if not is_tuple_of(thing, len(plan)):
        return False
    return first_no_code(plan, thing) is None


def need_record(plan, record):
    """Refuse what is no record of what is known to be a plan."""
    if not is_record(plan, record):
        raise NoRecord("this is no record of the plan")


def need_book(plan, book):
    """Refuse what is no book of what is known to be a plan."""
    if wrong_in_book(plan, book) is not None:
        raise NoBook("this is no book of the plan")


def record_wrong(plan, thing):
    """None where it is a record of the plan, else the first that is wrong with it."""
    need_plan(plan)
    return wrong_in_record(plan, thing)


def book_wrong(plan, thing):
    """None where it is a book of the plan, else the first that is wrong with it."""
    need_plan(plan)
    return wrong_in_book(plan, thing)


def gaps(plan, record):
    """The numbers of the sorts at which the record has no answer, rising."""
    need_plan(plan)
    need_record(plan, record)
    return [k for k in range(len(plan)) if record[k] is None]


def tally(answers, codes):
    """How many of the answers are each of the codes, and behind these how many are None."""
    return [answers.count(code) for code in codes] + [answers.count(None)]


def tallies(plan, book):
    """For each sort how many records have each of its codes, and behind these how many have None."""
    need_plan(plan)
    need_book(plan, book)
    return [tally([record[k] for record in book], codes) for k, (name, codes) in enumerate(plan)]


def fits(record, codes):
    """Whether the record has all the codes told; None asks nothing."""
    return all(code is None or record[k] == code for k, code in enumerate(codes))


def fitting(plan, book, codes):
    """The places, rising, of the records that have all the codes told."""
    need_plan(plan)
    need_book(plan, book)
    if not are_codes(plan, codes):
        raise NoCodes("these are no codes of the plan")
    return [i for i, record in enumerate(book) if fits(record, codes)]
