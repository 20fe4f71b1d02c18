"""What several tests need: plans, things that are none, and a look at what a call changes."""

import copy

from countveil.errors import CountError

SMALL = (("sex", ("f", "m")),)
PLAN = (("sex", ("f", "m")), ("age", ("old", "mid", "y")), ("area", ("n", "ne", "nort", "s")))
WIDE = (
    ("a", ("a", "b", "c", "d", "e", "f")),
    ("abcdefgh", ("abcd", "abc", "ab", "a", "abce", "b")),
    ("abcdefgi", ("x", "y")),
    ("zz", ("zzzz", "aaaa", "m")),
)
PLANS = (SMALL, PLAN, WIDE)


def nested(thing, many, wrap):
    """The thing within so many tuples or lists."""
    for _ in range(many):
        thing = wrap(thing)
    return thing


# Nothing of these is a plan, a record, a book or a tuple of codes of a plan above.
ANYTHING = (
    None,
    True,
    False,
    0,
    1,
    -1,
    10 ** 29,
    "",
    "a",
    "sex: f m",
    "a b\nc",
    (),
    (None,),
    [None],
    [[]],
    ("a",),
    ["a"],
    (True, False),
    (1, 2, 3, 4, 5, 6, 7),
    [list(PLAN)],
    list(PLAN),
    tuple(list(sort) for sort in PLAN),
    nested((), 99, lambda thing: (thing,)),
    nested([], 99, lambda thing: [thing]),
)


def refusal(call, *things, **named):
    """The refusal that a call raises, or None."""
    try:
        call(*things, **named)
    except CountError as refused:
        return refused
    return None


def refused_with(call, *things):
    """The class of the refusal that a call raises, or None."""
    refused = refusal(call, *things)
    return None if refused is None else refused.__class__


def unchanged(call, *things):
    """Whether what is handed in is as ahead behind the call; repr tells truths from numbers."""
    ahead = copy.deepcopy(things)
    refusal(call, *things)
    return repr(ahead) == repr(things)


def holds_truth(thing):
    """Whether a truth stands anywhere in what was told."""
    if isinstance(thing, (tuple, list)):
        return any(holds_truth(inner) for inner in thing)
    return isinstance(thing, bool)


def lists_in(thing):
    """All lists and dicts in what was told, one for each place at which one stands."""
    found = [thing] if isinstance(thing, (list, dict)) else []
    if isinstance(thing, (tuple, list, dict)):
        for inner in thing.values() if isinstance(thing, dict) else thing:
            found += lists_in(inner)
    return found


def spoil(thing):
    """Change every list and dict in what was told."""
    for inner in lists_in(thing):
        if isinstance(inner, dict):
            inner["spoiled"] = True
        else:
            inner.append("spoiled")
