"""Plans, rules, costs, records, books and tables drawn by chance, the same ones each time; and things bent by chance."""

import itertools

NAMES = ("a", "bb", "ccc", "abcdefgh")
CODES = ("a", "b", "cc", "ddd", "eeee", "f")


def plan_of(*many):
    """A plan with a sort of so many codes for each number."""
    return tuple((name, CODES[:codes]) for name, codes in zip(NAMES, many))


def draw_plan(chance, sorts=4, codes=6):
    """A plan of at most so many sorts of at most so many codes."""
    return plan_of(*[chance.randint(2, codes) for _ in range(chance.randint(1, sorts))])


def draw_rule(chance, plan):
    """A rule of the plan."""
    while True:
        rule = tuple(
            tuple(chance.sample(codes, chance.randint(1, len(codes)))) if chance.random() < 0.6 else None
            for name, codes in plan
        )
        if any(rule):
            return rule


def draw_rules(chance, plan, most=8):
    """At most so many rules of the plan."""
    return [draw_rule(chance, plan) for _ in range(chance.randint(0, most))]


def barring_all(plan):
    """Rules that bar every full record, none of which bars all by itself."""
    name, codes = plan[0]
    rest = (None,) * (len(plan) - 1)
    return [((code,), *rest) for code in codes]


def draw_costs(chance, plan, most=4):
    """Costs of the plan, small, so that some are alike."""
    return tuple(chance.randint(1, most) for _ in plan)


def draw_record(chance, plan, gap=0.25, most=9):
    """A record of the plan, each answer missing by the chance of a gap."""
    codes = [None if chance.random() < gap else chance.choice(codes) for name, codes in plan]
    return (*codes, chance.randint(0, most))


def draw_book(chance, plan, many, gap=0.25, most=9):
    """A book of so many records."""
    return [draw_record(chance, plan, gap, most) for _ in range(many)]


def draw_table(chance, most=9, height=None, width=None):
    """A table of one to six rows and columns."""
    rows = chance.sample(CODES, height or chance.randint(1, 6))
    columns = chance.sample(CODES, width or chance.randint(1, 6))
    return (rows, columns, [[chance.choice((0, chance.randint(0, most))) for _ in columns] for _ in rows])


def full_codes(plan):
    """Each tuple of a code for each sort, in order."""
    return list(itertools.product(*[codes for name, codes in plan]))


def bars(rule, answers):
    """Whether a rule bars by a dict of the answers known by sorts; written apart from the program."""
    asked = {s: codes for s, codes in enumerate(rule) if codes is not None}
    return all(s in answers and answers[s] in codes for s, codes in asked.items())


def is_right(rules, codes):
    """Whether no rule bars full codes."""
    return not [rule for rule in rules if bars(rule, dict(enumerate(codes)))]


def bent_number(chance, number):
    """Another thing in a number's place."""
    return chance.choice((number + 1, number - 1, -number - 1, True, False, None, str(number), (number,), [number]))


def bent(chance, thing):
    """A copy of the thing, bent at one place drawn by chance: another thing stands there, or one less, or more."""
    if isinstance(thing, (tuple, list)) and thing and chance.random() < 0.8:
        inner = list(thing)
        at = chance.randrange(len(inner))
        inner[at] = bent(chance, inner[at])
        return inner.__class__(inner) if isinstance(thing, list) else tuple(inner)
    if isinstance(thing, bool) or thing is None:
        return chance.choice((0, 1, "", (), [], not thing))
    if isinstance(thing, int):
        return bent_number(chance, thing)
    if isinstance(thing, str):
        return chance.choice((thing + "a", thing[1:], "a", None, 1, (thing,)))
    return bent_whole(chance, thing)


def bent_whole(chance, thing):
    """A tuple or list bent as a whole: another kind, one thing less, more, or two exchanged."""
    kind = thing.__class__
    other = list if kind == tuple else tuple
    inner = list(thing)
    if not inner:
        return chance.choice((other(), kind([0]), None))
    at = chance.randrange(len(inner))
    return chance.choice((
        other(inner), kind(inner[:at] + inner[at + 1:]), kind(inner[:at] + inner[at:at + 1] + inner[at:]),
        kind([*inner[at:], *inner[:at]]), kind([*inner, None]), None, kind(),
    ))
