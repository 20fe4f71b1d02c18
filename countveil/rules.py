"""Rules of a plan: which codes bar a record."""

from countveil.errors import NoRules
from countveil.kinds import is_tuple_of
from countveil.plans import need_plan
from countveil.records import need_record

MOST_RULES = 20


def are_unlike_codes_of(codes, thing):
    """Whether it is a tuple of one or more unlike ones of the codes."""
    if not isinstance(thing, tuple) or len(thing) == 0:
        return False
    # Only texts reach the set: other things may be lists, which no set can hold.
    return all(code in codes for code in thing) and len(set(thing)) == len(thing)


def is_rule(plan, thing):
    """Whether it is a rule of what is known to be a plan."""
    if not is_tuple_of(thing, len(plan)):
        return False
    asked = [(sort[1], codes) for sort, codes in zip(plan, thing) if codes is not None]
    return len(asked) > 0 and all(are_unlike_codes_of(known, codes) for known, codes in asked)


def wrong_in_rules(plan, thing):
    """What rules_wrong tells, of what is known to be a plan."""
    if not isinstance(thing, list) or len(thing) > MOST_RULES:
        return ("rules",)
    for k, rule in enumerate(thing):
        if not is_rule(plan, rule):
            return ("rule", k)
    return None


def rules_wrong(plan, thing):
    """None where they are rules of the plan, else the first that is wrong with them."""
    need_plan(plan)
    return wrong_in_rules(plan, thing)


def need_rules(plan, rules):
    """Refuse what are no rules of what is known to be a plan."""
    if wrong_in_rules(plan, rules) is not None:
        raise NoRules("these are no rules of the plan")


def bars(rule, answers):
    """Whether the rule bars by the answers, one for each sort; None, where it isn't known, bars nothing."""
    for codes, answer in zip(rule, answers):
        if codes is not None and answer not in codes:
            return False
    return True


def first_barring(rules, answers):
    """The least number of a rule that bars by the answers; None where none does."""
    for k, rule in enumerate(rules):
        if bars(rule, answers):
            return k
    return None


def is_right(rules, answers):
    """Whether no rule bars by the answers."""
    return first_barring(rules, answers) is None


def barred_by(plan, rules, record):
    """The numbers of the rules that bar the record, rising."""
    need_plan(plan)
    need_rules(plan, rules)
    need_record(plan, record)
    return [k for k, rule in enumerate(rules) if bars(rule, record)]


def all_codes(plan):
    """Each tuple of a code for each sort, in the order of the codes' places, sort by sort."""
    grown = [()]
    for name, codes in plan:
        grown = [(*ahead, code) for ahead in grown for code in codes]
    return grown


def right_codes(plan, rules):
    """Those of all tuples of a code for each sort that no rule bars, in their order."""
    return [codes for codes in all_codes(plan) if is_right(rules, codes)]
