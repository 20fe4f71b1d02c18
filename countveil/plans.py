"""Plans: which sorts of answers there are, and the codes of each."""

from countveil.errors import NoPlan
from countveil.kinds import is_tuple_of, is_word

MOST_SORTS = 4
LEAST_CODES = 2
MOST_CODES = 6
MOST_NAME = 8
MOST_CODE = 4


def is_name(thing):
    """Whether it is a NAME."""
    return is_word(thing, MOST_NAME)


def is_code(thing):
    """Whether it is a CODE."""
    return is_word(thing, MOST_CODE)


def are_unlike_codes(things):
    """Whether each thing of a tuple or a list is a CODE, and none stands there twice."""
    # Only texts reach the set: other things may be lists, which no set can hold.
    return all(is_code(thing) for thing in things) and len(set(things)) == len(things)


def is_sort(thing):
    """Whether it is a sort, whatever the names of other sorts are."""
    if not is_tuple_of(thing, 2):
        return False
    name, codes = thing
    if not is_name(name) or not isinstance(codes, tuple):
        return False
    return LEAST_CODES <= len(codes) <= MOST_CODES and are_unlike_codes(codes)


def plan_wrong(thing):
    """None where it is a plan, else the first that is wrong with it."""
    if not isinstance(thing, tuple) or not 1 <= len(thing) <= MOST_SORTS:
        return ("plan",)
    for k, sort in enumerate(thing):
        if not is_sort(sort):
            return ("sort", k)
    names = [name for name, codes in thing]
    for k, name in enumerate(names):
        if name in names[:k]:
            return ("twice", k)
    return None


def need_plan(plan):
    """Refuse what is no plan."""
    if plan_wrong(plan) is not None:
        raise NoPlan("this is no plan")
