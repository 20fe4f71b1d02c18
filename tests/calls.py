"""Calls of every function, with things of one's own each time."""

from countveil.donors import filled, fillings, fillings_judged
from countveil.mends import mend, mend_judged
from countveil.plans import plan_wrong
from countveil.records import book_wrong, fitting, gaps, record_wrong, tallies
from countveil.rules import barred_by, rules_wrong
from countveil.texts import book_text, plan_text, read_book, read_plan, read_record, record_text
from countveil.weighing import bar_judged, known_wrong, multipliers, weights, weights_barred, weights_judged
from tests.samples import PLAN

RECORD = ("f", None, "n", 1)
GAPS_ALL = (None, None, None, 0)
BAD_SORT = (("sex", ("f", "m")), ("age", ("o",)))
TWICE = (("sex", ("f", "m")), ("sex", ("o", "y")))
COSTS = (3, 2, 1)


def book():
    """A book of one's own."""
    return [("f", "old", "n", 1), RECORD, GAPS_ALL, ("m", "y", None, 10 ** 6), ("m", "mid", "n", 3)]


def rules():
    """Rules of one's own."""
    return [(("f",), ("old", "mid"), None), (None, ("y",), ("n", "s"))]


def all_barred():
    """Rules that bar every full record."""
    return [(("f",), None, None), (("m",), None, None)]


def known():
    """Known totals of one's own, that some weights meet."""
    return [((0, "f"), 5), ((0, "m"), 3), ((2, "n"), 4)]


def not_met():
    """Known totals of one's own, that none meet."""
    return [((0, "f"), 5), ((1, "mid"), 3), ((2, "ne"), 4)]


def both_weights():
    return (weights(PLAN, book(), known()), multipliers(PLAN, book(), known()))


TEXT_CALLS = (
    (read_plan, lambda: (plan_text(PLAN),)),
    (read_record, lambda: (PLAN, "f - n 1")),
    (read_book, lambda: (PLAN, "f - n 1\n- - - 0")),
    (read_book, lambda: (PLAN, "")),
)

FIRST_CALLS = (
    (plan_wrong, lambda: (PLAN,)),
    (plan_wrong, lambda: (BAD_SORT,)),
    (plan_wrong, lambda: (TWICE,)),
    (plan_wrong, lambda: ([list(sort) for sort in PLAN],)),
    (plan_wrong, lambda: ((("sex", ["f", "m"]),),)),
    (record_wrong, lambda: (PLAN, RECORD)),
    (record_wrong, lambda: (PLAN, list(RECORD))),
    (record_wrong, lambda: (PLAN, ("f", "x", "n", 1))),
    (record_wrong, lambda: (PLAN, ("f", ["old"], "n", 1))),
    (record_wrong, lambda: (PLAN, ("f", "old", "n", True))),
    (book_wrong, lambda: (PLAN, book())),
    (book_wrong, lambda: (PLAN, [RECORD, ("f", "x", "n", 1)])),
    (book_wrong, lambda: (PLAN, [RECORD, list(RECORD)])),
    (gaps, lambda: (PLAN, RECORD)),
    (gaps, lambda: (PLAN, GAPS_ALL)),
    (tallies, lambda: (PLAN, book())),
    (tallies, lambda: (PLAN, [])),
    (fitting, lambda: (PLAN, book(), ("f", None, None))),
    (fitting, lambda: (PLAN, book(), (None, None, None))),
    (plan_text, lambda: (PLAN,)),
    (record_text, lambda: (PLAN, RECORD)),
    (book_text, lambda: (PLAN, book())),
)

MENDING_CALLS = (
    (rules_wrong, lambda: (PLAN, rules())),
    (rules_wrong, lambda: (PLAN, [])),
    (rules_wrong, lambda: (PLAN, [*rules(), (["f"], None, None)])),
    (barred_by, lambda: (PLAN, rules(), ("f", "old", "n", 1))),
    (barred_by, lambda: (PLAN, rules(), RECORD)),
    (mend, lambda: (PLAN, rules(), COSTS, RECORD)),
    (mend, lambda: (PLAN, rules(), COSTS, GAPS_ALL)),
    (mend, lambda: (PLAN, [], COSTS, ("f", "old", "n", 1))),
    (mend, lambda: (PLAN, all_barred(), COSTS, RECORD)),
    (mend_judged, lambda: (PLAN, rules(), COSTS, RECORD, mend(PLAN, rules(), COSTS, RECORD))),
    (mend_judged, lambda: (PLAN, rules(), COSTS, RECORD, mend(PLAN, rules(), COSTS, GAPS_ALL))),
    (mend_judged, lambda: (PLAN, rules(), COSTS, RECORD, (1, RECORD, ("sort", 0, [("dear",), ("barred", 1)])))),
    (mend_judged, lambda: (PLAN, all_barred(), COSTS, RECORD, (None, None, ("sort", 0, [("barred", 0)] * 2)))),
    (fillings, lambda: (PLAN, rules(), COSTS, book())),
    (fillings, lambda: (PLAN, rules(), COSTS, [])),
    (filled, lambda: (PLAN, rules(), COSTS, book())),
    (filled, lambda: (PLAN, [], (1, 1, 1), book())),
    (fillings_judged, lambda: (PLAN, rules(), COSTS, book(), fillings(PLAN, rules(), COSTS, book()))),
    (fillings_judged, lambda: (PLAN, rules(), COSTS, book(), [("own",)] * 5)),
    (fillings_judged, lambda: (PLAN, rules(), COSTS, book(), [["own"] for _ in range(5)])),
)

WEIGHING_CALLS = (
    (known_wrong, lambda: (PLAN, known())),
    (known_wrong, lambda: (PLAN, known() * 2)),
    (known_wrong, lambda: (PLAN, [*known(), [1, 2]])),
    (weights, lambda: (PLAN, book(), known())),
    (weights, lambda: (PLAN, book(), not_met())),
    (weights, lambda: (PLAN, [], [((0, "f"), 0)])),
    (multipliers, lambda: (PLAN, book(), known())),
    (multipliers, lambda: (PLAN, book(), not_met())),
    (weights_judged, lambda: (PLAN, book(), known(), both_weights())),
    (weights_judged, lambda: (PLAN, book(), known(), ([(1, 1)] * 5, [(0, 1)] * 3))),
    (weights_judged, lambda: (PLAN, book(), known(), ([(2, 1)] * 5, [(0, 1)] * 3))),
    (weights_barred, lambda: (PLAN, book(), known())),
    (weights_barred, lambda: (PLAN, book(), not_met())),
    (bar_judged, lambda: (PLAN, book(), not_met(), weights_barred(PLAN, book(), not_met()))),
    (bar_judged, lambda: (PLAN, book(), not_met(), [(0, 1)] * 3)),
    (bar_judged, lambda: (PLAN, book(), not_met(), [(1, 1)] * 3)),
)

# Whatever stands in an argument's place of these is refused or judged: it never fails in another way.
ANYTHING_CALLS = FIRST_CALLS + MENDING_CALLS + WEIGHING_CALLS
CALLS = ANYTHING_CALLS + TEXT_CALLS
