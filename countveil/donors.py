"""Books filled from donors: what is to be changed in a record is taken from the nearest record that gives."""

from countveil.errors import NoRight
from countveil.kinds import is_list_of, is_tuple_of, is_whole
from countveil.mends import cost_beside, least_codes, need_costs
from countveil.records import is_full, need_book
from countveil.rules import is_right, right_codes

OWN = ("own",)
MENDED = ("mended",)


def gives(rules, record):
    """Whether the record is right and full."""
    return is_full(record) and is_right(rules, record)


def sorts_to_change(record, codes):
    """The numbers of the sorts in which the codes of its mend are unlike those of the record."""
    return [s for s, code in enumerate(codes) if code != record[s]]


def with_codes_of(record, giver, sorts):
    """The record with the giver's codes in these sorts."""
    return tuple([giver[s] if s in sorts else thing for s, thing in enumerate(record)])


def farness(costs, record, giver, sorts):
    """What the giver's codes in all other sorts cost beside the record, and how far its measure is."""
    others = [None if s in sorts else giver[s] for s in range(len(costs))]
    return (cost_beside(costs, others, record), abs(giver[-1] - record[-1]))


def nearest_donor(rules, costs, givers, record, sorts):
    """The place in the book of the nearest donor of the record; None where it has none."""
    ranks = [
        (*farness(costs, record, giver, sorts), i) for i, giver in givers
        if is_right(rules, with_codes_of(record, giver, sorts))
    ]
    return min(ranks)[-1] if ranks != [] else None


def need_right_codes(plan, rules):
    """All right codes; refused where there are none."""
    rights = right_codes(plan, rules)
    if rights == []:
        raise NoRight("no full record is right")
    return rights


def fill(plan, rules, costs, book):
    """For each record of the book a tuple of its filling and what it makes; refuses what all here refuse."""
    need_costs(plan, rules, costs)
    need_book(plan, book)
    rights = need_right_codes(plan, rules)
    givers = [(n, giver) for n, giver in enumerate(book) if gives(rules, giver)]

    def filled_one(record):
        if gives(rules, record):
            return (OWN, record)
        codes = least_codes(costs, rights, record)
        sorts = sorts_to_change(record, codes)
        i = nearest_donor(rules, costs, givers, record, sorts)
        if i is None:
            return (MENDED, (*codes, record[-1]))
        return (("donor", i), with_codes_of(record, book[i], sorts))

    return [filled_one(record) for record in book]


def fillings(plan, rules, costs, book):
    """For each record of the book how it is filled."""
    return [filling for filling, record in fill(plan, rules, costs, book)]


def filled(plan, rules, costs, book):
    """The book with each record that doesn't give filled."""
    return [record for filling, record in fill(plan, rules, costs, book)]


def is_filling_by_form(thing):
    """Whether it is the tuple of a filling, its place any whole number."""
    if is_tuple_of(thing, 2):
        return thing[0] == "donor" and is_whole(thing[1])
    return thing == OWN or thing == MENDED


def fillings_judged(plan, rules, costs, book, thing):
    """None where they are the fillings of the book, else the first that is wrong with them."""
    told = fillings(plan, rules, costs, book)
    if not is_list_of(thing, len(told)):
        return ("form",)
    if not all(is_filling_by_form(filling) for filling in thing):
        return ("form",)
    for k, filling in enumerate(told):
        if thing[k] != filling:
            return ("record", k)
    return None
