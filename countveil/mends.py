"""Mends: a right full record that changes least of another one, and a tree that shows it."""

from countveil.errors import NoCosts
from countveil.kinds import is_tuple_of, is_whole, is_whole_within
from countveil.plans import need_plan
from countveil.records import is_full, is_record, need_record, with_thing
from countveil.rules import bars, first_barring, is_right, need_rules, right_codes

LEAST_COST = 1
MOST_COST = 1000


def are_costs(plan, thing):
    """Whether they are costs of what is known to be a plan."""
    return is_tuple_of(thing, len(plan)) and all(is_whole_within(cost, LEAST_COST, MOST_COST) for cost in thing)


def need_costs(plan, rules, costs):
    """Refuse what is no plan, then what are no rules of it, then what are no costs."""
    need_plan(plan)
    need_rules(plan, rules)
    if not are_costs(plan, costs):
        raise NoCosts("these are no costs of the plan")


def cost_beside(costs, known, record):
    """What the known codes cost beside the record; None, where a code isn't known, costs nothing."""
    return sum(cost for cost, code, own in zip(costs, known, record) if code is not None and code != own)


def least_codes(costs, rights, record):
    """The first of the right codes, of which there are some, that cost least beside the record."""
    return min(rights, key=lambda codes: cost_beside(costs, codes, record))


def come_to(costs, known, record, cost):
    """Whether the known codes cost as much as cost beside the record, or more; never where that is None."""
    return cost is not None and cost_beside(costs, known, record) >= cost


def nothing_known(plan):
    """None for each sort."""
    return (None,) * len(plan)


def tree_for(plan, rules, costs, record, cost):
    """A tree that shows that no right full record costs less than cost, or that none is right."""

    def grown(known):
        if come_to(costs, known, record, cost):
            return ("dear",)
        k = first_barring(rules, known)
        if k is not None:
            return ("barred", k)
        s = known.index(None)
        return ("sort", s, [grown(with_thing(known, s, code)) for code in plan[s][1]])

    return grown(nothing_known(plan))


def mend(plan, rules, costs, record):
    """A mend of the record, by the first of all right full records of the least cost."""
    need_costs(plan, rules, costs)
    need_record(plan, record)
    rights = right_codes(plan, rules)
    if rights == []:
        return (None, None, tree_for(plan, rules, costs, record, None))
    codes = least_codes(costs, rights, record)
    cost = cost_beside(costs, codes, record)
    return (cost, (*codes, record[-1]), tree_for(plan, rules, costs, record, cost))


def is_tree_by_form(thing):
    """Whether it is a tree by its words, kinds and lengths, all the way down."""
    if not isinstance(thing, tuple) or len(thing) == 0:
        return False
    word, *rest = thing
    if word == "dear":
        return rest == []
    if word == "barred":
        return len(rest) == 1 and is_whole(rest[0])
    if word != "sort" or len(rest) != 2:
        return False
    s, trees = rest
    return is_whole(s) and isinstance(trees, list) and all(is_tree_by_form(tree) for tree in trees)


def is_mend_by_form(thing):
    """Whether it is a tuple of three, the first None or a whole number, the third a tree by its form."""
    if not is_tuple_of(thing, 3):
        return False
    cost, mended, tree = thing
    return (cost is None or is_whole(cost)) and is_tree_by_form(tree)


def is_mended(plan, rules, costs, record, cost, mended):
    """Whether it is a right full record with the record's measure, whose cost is told, or both are None."""
    if cost is None:
        return mended is None
    if not is_record(plan, mended) or not is_full(mended) or mended[-1] != record[-1]:
        return False
    return is_right(rules, mended) and cost_beside(costs, mended, record) == cost


def first_wrong_tree(plan, rules, costs, record, cost, whole):
    """The least path at which no tree as told stands; None where there is none."""

    def stands(known, tree):
        if tree[0] == "dear":
            return come_to(costs, known, record, cost)
        if tree[0] == "barred":
            return 0 <= tree[1] < len(rules) and bars(rules[tree[1]], known)
        s, trees = tree[1:]
        return 0 <= s < len(plan) and known[s] is None and len(trees) == len(plan[s][1])

    def first_wrong(known, tree, path):
        if not stands(known, tree):
            return path
        if tree[0] != "sort":
            return None
        s, trees = tree[1:]
        for n, code in enumerate(plan[s][1]):
            wrong = first_wrong(with_thing(known, s, code), trees[n], (*path, n))
            if wrong is not None:
                return wrong
        return None

    return first_wrong(nothing_known(plan), whole, ())


def mend_judged(plan, rules, costs, record, thing):
    """None where it is a mend of the record, else the first that is wrong with it."""
    need_costs(plan, rules, costs)
    need_record(plan, record)
    if not is_mend_by_form(thing):
        return ("mend",)
    cost, mended, tree = thing
    if not is_mended(plan, rules, costs, record, cost, mended):
        return ("record",)
    path = first_wrong_tree(plan, rules, costs, record, cost, tree)
    return None if path is None else ("tree", path)
