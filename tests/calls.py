"""Calls of every function, with things of one's own each time."""

from countveil.counting import layers, table_of, weighed_cells
from countveil.donors import filled, fillings, fillings_judged
from countveil.markets import chained, chained_parts, market_wrong, number, parts
from countveil.mends import mend, mend_judged
from countveil.papertexts import paper_text, read_paper
from countveil.patterns import fewest, pattern, safe_judged, safe_paper, safe_wrong
from countveil.plans import plan_wrong
from countveil.records import book_wrong, fitting, gaps, record_wrong, tallies
from countveil.releases import all_fixed, fixed, fixed_judged, release_wrong
from countveil.revised import books_of, figure_of, figures, history_wrong, roots, split
from countveil.roundings import nearest, nearest_judged, rounding_wrong
from countveil.rules import barred_by, rules_wrong
from countveil.seasons import adjusted, left_over, seasons, seasons_judged, trend, with_pattern, year_sums
from countveil.spans import sheet_wrong, span, span_judged, span_paper, spans, world_judged
from countveil.tables import added, put_together, table_wrong, totals, turned_table
from countveil.texts import book_text, plan_text, read_book, read_plan, read_record, record_text
from countveil.weighing import bar_judged, known_wrong, multipliers, weights, weights_barred, weights_judged
from tests.samples import PLAN

RECORD = ("f", None, "n", 1)
GAPS_ALL = (None, None, None, 0)
BAD_SORT = (("sex", ("f", "m")), ("age", ("o",)))
TWICE = (("sex", ("f", "m")), ("sex", ("o", "y")))
COSTS = (3, 2, 1)


def book():
    """A book of one's own."""
    return [("f", "old", "n", 1), RECORD, GAPS_ALL, ("m", "y", None, 10 ** 6), ("m", "mid", "n", 3)]


def rules():
    """Rules of one's own."""
    return [(("f",), ("old", "mid"), None), (None, ("y",), ("n", "s"))]


def all_barred():
    """Rules that bar every full record."""
    return [(("f",), None, None), (("m",), None, None)]


def known():
    """Known totals of one's own, that some weights meet."""
    return [((0, "f"), 5), ((0, "m"), 3), ((2, "n"), 4)]


def not_met():
    """Known totals of one's own, that none meet."""
    return [((0, "f"), 5), ((1, "mid"), 3), ((2, "ne"), 4)]


def both_weights():
    return (weights(PLAN, book(), known()), multipliers(PLAN, book(), known()))


def table():
    """A table of one's own."""
    return (["n", "s"], ["old", "mid", "y"], [[1, 2, 3], [4, 5, 6]])


def cells():
    """Cells of one's own."""
    return [[3, 1, 2], [0, 5, 1], [4, 4, 4]]


def sheet():
    """A sheet of one's own."""
    return (cells(), [(0, 0), (0, 1), (1, 0), (1, 1)])


def guards():
    """Guards of one's own, for which the sheet is safe."""
    return [(0, 1, 0, 2), (1, 1, 3, 0)]


def rounding():
    """A rounding of the table to 5, of one's own."""
    return (["n", "s"], ["old", "mid", "y"], [[0, 0, 5], [5, 5, 5]])


def release():
    """A release of one's own."""
    return [([0, 1], 5), ([1, 2], 7), ([0, 2], 4)]


def clashing():
    """A release of one's own, of no numbers at all."""
    return [([0, 1], 5), ([0, 1], 6)]


def history():
    """A history of one's own."""
    return [
        [("add", RECORD), ("add", GAPS_ALL)],
        [],
        [("fix", 1, 1, "y"), ("add", ("m", "y", None, 5)), ("drop", 0), ("fix", 0, 3, 12)],
    ]


FIGURE = ((None, "y", None), "measure")


def series():
    """A series of one's own."""
    return [3, 5, 1, 7, 4, 6, 2, 9, 5]


def market():
    """A market of one's own."""
    return (("bread", "milk"), [[2, 3], [4, 3], [4, 6]], [[1, 1], [2, 5], [0, 3]])


def paper():
    """A thing of every kind."""
    return (None, True, [False, -7, "", "none"], {"b": [1], "a": {"x y": (), "": []}, "no": "a\"^\n"})


def table_of_measures(*things):
    return table_of(*things, what="measure")


def layers_of_measures(*things):
    return layers(*things, what="measure")


TEXT_CALLS = (
    (read_paper, lambda: ("7",)),
    (read_paper, lambda: ('([] [[]] {a:[] "b c":{}} (none "" a))',)),
    (read_plan, lambda: (plan_text(PLAN),)),
    (read_record, lambda: (PLAN, "f - n 1")),
    (read_book, lambda: (PLAN, "f - n 1\n- - - 0")),
    (read_book, lambda: (PLAN, "")),
)

FIRST_CALLS = (
    (plan_wrong, lambda: (PLAN,)),
    (plan_wrong, lambda: (BAD_SORT,)),
    (plan_wrong, lambda: (TWICE,)),
    (plan_wrong, lambda: ([list(sort) for sort in PLAN],)),
    (plan_wrong, lambda: ((("sex", ["f", "m"]),),)),
    (record_wrong, lambda: (PLAN, RECORD)),
    (record_wrong, lambda: (PLAN, list(RECORD))),
    (record_wrong, lambda: (PLAN, ("f", "x", "n", 1))),
    (record_wrong, lambda: (PLAN, ("f", ["old"], "n", 1))),
    (record_wrong, lambda: (PLAN, ("f", "old", "n", True))),
    (book_wrong, lambda: (PLAN, book())),
    (book_wrong, lambda: (PLAN, [RECORD, ("f", "x", "n", 1)])),
    (book_wrong, lambda: (PLAN, [RECORD, list(RECORD)])),
    (gaps, lambda: (PLAN, RECORD)),
    (gaps, lambda: (PLAN, GAPS_ALL)),
    (tallies, lambda: (PLAN, book())),
    (tallies, lambda: (PLAN, [])),
    (fitting, lambda: (PLAN, book(), ("f", None, None))),
    (fitting, lambda: (PLAN, book(), (None, None, None))),
    (plan_text, lambda: (PLAN,)),
    (record_text, lambda: (PLAN, RECORD)),
    (book_text, lambda: (PLAN, book())),
)

MENDING_CALLS = (
    (rules_wrong, lambda: (PLAN, rules())),
    (rules_wrong, lambda: (PLAN, [])),
    (rules_wrong, lambda: (PLAN, [*rules(), (["f"], None, None)])),
    (barred_by, lambda: (PLAN, rules(), ("f", "old", "n", 1))),
    (barred_by, lambda: (PLAN, rules(), RECORD)),
    (mend, lambda: (PLAN, rules(), COSTS, RECORD)),
    (mend, lambda: (PLAN, rules(), COSTS, GAPS_ALL)),
    (mend, lambda: (PLAN, [], COSTS, ("f", "old", "n", 1))),
    (mend, lambda: (PLAN, all_barred(), COSTS, RECORD)),
    (mend_judged, lambda: (PLAN, rules(), COSTS, RECORD, mend(PLAN, rules(), COSTS, RECORD))),
    (mend_judged, lambda: (PLAN, rules(), COSTS, RECORD, mend(PLAN, rules(), COSTS, GAPS_ALL))),
    (mend_judged, lambda: (PLAN, rules(), COSTS, RECORD, (1, RECORD, ("sort", 0, [("dear",), ("barred", 1)])))),
    (mend_judged, lambda: (PLAN, all_barred(), COSTS, RECORD, (None, None, ("sort", 0, [("barred", 0)] * 2)))),
    (fillings, lambda: (PLAN, rules(), COSTS, book())),
    (fillings, lambda: (PLAN, rules(), COSTS, [])),
    (filled, lambda: (PLAN, rules(), COSTS, book())),
    (filled, lambda: (PLAN, [], (1, 1, 1), book())),
    (fillings_judged, lambda: (PLAN, rules(), COSTS, book(), fillings(PLAN, rules(), COSTS, book()))),
    (fillings_judged, lambda: (PLAN, rules(), COSTS, book(), [("own",)] * 5)),
    (fillings_judged, lambda: (PLAN, rules(), COSTS, book(), [["own"] for _ in range(5)])),
)

WEIGHING_CALLS = (
    (known_wrong, lambda: (PLAN, known())),
    (known_wrong, lambda: (PLAN, known() * 2)),
    (known_wrong, lambda: (PLAN, [*known(), [1, 2]])),
    (weights, lambda: (PLAN, book(), known())),
    (weights, lambda: (PLAN, book(), not_met())),
    (weights, lambda: (PLAN, [], [((0, "f"), 0)])),
    (multipliers, lambda: (PLAN, book(), known())),
    (multipliers, lambda: (PLAN, book(), not_met())),
    (weights_judged, lambda: (PLAN, book(), known(), both_weights())),
    (weights_judged, lambda: (PLAN, book(), known(), ([(1, 1)] * 5, [(0, 1)] * 3))),
    (weights_judged, lambda: (PLAN, book(), known(), ([(2, 1)] * 5, [(0, 1)] * 3))),
    (weights_barred, lambda: (PLAN, book(), known())),
    (weights_barred, lambda: (PLAN, book(), not_met())),
    (bar_judged, lambda: (PLAN, book(), not_met(), weights_barred(PLAN, book(), not_met()))),
    (bar_judged, lambda: (PLAN, book(), not_met(), [(0, 1)] * 3)),
    (bar_judged, lambda: (PLAN, book(), not_met(), [(1, 1)] * 3)),
)

TABLE_CALLS = (
    (table_wrong, lambda: (table(),)),
    (table_wrong, lambda: ((["n"], ["y"], [[True]]),)),
    (totals, lambda: (table(),)),
    (turned_table, lambda: (table(),)),
    (added, lambda: ([table()],)),
    (added, lambda: ([table(), table()],)),
    (put_together, lambda: (table(), [[1], [0]], [[0, 2], [1]])),
    (put_together, lambda: (table(), [[0], [1]], [[0], [1], [2]])),
    (table_of, lambda: (PLAN, book(), 0, 1)),
    (table_of, lambda: (PLAN, [], 1, 0)),
    (table_of_measures, lambda: (PLAN, book(), 0, 1)),
    (weighed_cells, lambda: (PLAN, book(), 0, 1, [(1, 2)] * 5)),
    (weighed_cells, lambda: (PLAN, [], 0, 1, [])),
    (layers, lambda: (PLAN, book(), 0, 1, 2)),
    (layers_of_measures, lambda: (PLAN, book(), 2, 1, 0)),
)

SHEET_CALLS = (
    (sheet_wrong, lambda: (sheet(),)),
    (sheet_wrong, lambda: ((cells(), [(1, 1), (0, 0)]),)),
    (world_judged, lambda: (sheet(), cells())),
    (world_judged, lambda: (sheet(), [[2, 2, 2], [0, 5, 1], [4, 4, 4]])),
    (span, lambda: (sheet(), (1, 1))),
    (spans, lambda: (sheet(),)),
    (spans, lambda: ((cells(), []),)),
    (span_paper, lambda: (sheet(), (0, 0))),
    (span_paper, lambda: (sheet(), (1, 1))),
    (span_paper, lambda: (([[7]], [(0, 0)]), (0, 0))),
    (span_judged, lambda: (sheet(), (1, 1), span_paper(sheet(), (1, 1)))),
    (span_judged, lambda: (sheet(), (0, 1), span_paper(sheet(), (1, 1)))),
    (safe_wrong, lambda: (sheet(), guards())),
    (safe_wrong, lambda: (sheet(), [(0, 0, 1, 1)])),
    (safe_paper, lambda: (sheet(), guards())),
    (safe_paper, lambda: (sheet(), [(0, 0, 1, 1)])),
    (safe_judged, lambda: (sheet(), guards(), safe_paper(sheet(), guards()))),
    (safe_judged, lambda: (sheet(), guards(), [(cells(), cells()), (cells(), cells())])),
    (pattern, lambda: (cells(), guards())),
    (pattern, lambda: (cells(), [])),
    (pattern, lambda: (cells(), [(0, 0, 9, 9)])),
    (fewest, lambda: (cells(), guards())),
    (fewest, lambda: (cells(), [])),
    (fewest, lambda: ([[0] * 6 for _ in range(2)], [(0, 0, 9, 9)])),
)

ROUNDING_CALLS = (
    (rounding_wrong, lambda: (table(), 5, rounding())),
    (rounding_wrong, lambda: (table(), 5, table())),
    (rounding_wrong, lambda: (table(), 2, rounding())),
    (nearest, lambda: (table(), 5)),
    (nearest, lambda: (table(), 1000)),
    (nearest, lambda: ((["a"], ["b"], [[4]]), 2)),
    (nearest_judged, lambda: (table(), 5, nearest(table(), 5))),
    (nearest_judged, lambda: (table(), 5, (rounding(), 1, ([0, 0], [0, 0, 0], 0)))),
    (nearest_judged, lambda: (table(), 5, (rounding(), 19, ([0, 90], [0, 0, 0], 0)))),
)

RELEASE_CALLS = (
    (release_wrong, lambda: (3, release())),
    (release_wrong, lambda: (2, release())),
    (fixed, lambda: (3, release(), [0, 1, 2])),
    (fixed, lambda: (4, release(), [3])),
    (fixed, lambda: (2, clashing(), [0])),
    (fixed_judged, lambda: (3, release(), [0, 1, 2], fixed(3, release(), [0, 1, 2]))),
    (fixed_judged, lambda: (4, release(), [3], fixed(4, release(), [3]))),
    (fixed_judged, lambda: (2, clashing(), [0], fixed(2, clashing(), [0]))),
    (fixed_judged, lambda: (3, release(), [0], ("free", [(1, 1), (0, 1), (0, 1)]))),
    (all_fixed, lambda: (4, release(), [[0], [3], [0, 1, 2]])),
    (all_fixed, lambda: (4, [], [])),
)

REVISED_CALLS = (
    (figure_of, lambda: (PLAN, book(), FIGURE)),
    (history_wrong, lambda: (PLAN, history())),
    (history_wrong, lambda: (PLAN, [[], [("drop", 0)]])),
    (books_of, lambda: (PLAN, history())),
    (books_of, lambda: (PLAN, [])),
    (figures, lambda: (PLAN, history(), FIGURE)),
    (split, lambda: (PLAN, history(), FIGURE, 0, 3)),
    (split, lambda: (PLAN, history(), FIGURE, 1, 1)),
    (roots, lambda: (PLAN, history(), 3)),
    (roots, lambda: (PLAN, history(), 0)),
)

SEASON_CALLS = (
    (trend, lambda: (series(), 4)),
    (trend, lambda: (series(), 3)),
    (seasons, lambda: (series(), 4)),
    (adjusted, lambda: (series(), 4)),
    (left_over, lambda: (series(), 4)),
    (year_sums, lambda: (series(), 4)),
    (with_pattern, lambda: (series(), 2, [5, -5])),
    (with_pattern, lambda: (series(), 2, [0, 0])),
    (seasons_judged, lambda: (series(), 4, seasons(series(), 4))),
    (seasons_judged, lambda: (series(), 4, [(0, 1)] * 4)),
    (seasons_judged, lambda: (series(), 4, [(1, 1)] * 4)),
)

MARKET_CALLS = (
    (market_wrong, lambda: (market(),)),
    (market_wrong, lambda: ((("bread",), [[1]], [[0]]),)),
    (number, lambda: (market(), 0, 2, "old")),
    (number, lambda: (market(), 2, 0, "new")),
    (chained, lambda: (market(), 0, 2, "old")),
    (chained, lambda: (market(), 1, 1, "new")),
    (parts, lambda: (market(), 0, 2, "old")),
    (chained_parts, lambda: (market(), 2, 0, "new")),
    (chained_parts, lambda: (market(), 1, 1, "new")),
)

PAPER_CALLS = (
    (paper_text, lambda: (paper(),)),
    (paper_text, lambda: (7,)),
)

# Whatever stands in an argument's place of these is refused or judged: it never fails in another way.
ANYTHING_CALLS = (
    FIRST_CALLS + MENDING_CALLS + WEIGHING_CALLS + TABLE_CALLS + SHEET_CALLS + ROUNDING_CALLS + RELEASE_CALLS
    + REVISED_CALLS + SEASON_CALLS + MARKET_CALLS + PAPER_CALLS
)
CALLS = ANYTHING_CALLS + TEXT_CALLS

LABELS = ["a", "b"]
ROW = [2, 2]
SHARED_TABLE = (LABELS, LABELS, [ROW, ROW])
STEP = [("add", ("f", "y", None, 4)), ("add", ("f", "y", None, 4)), ("fix", 0, 3, 9)]
SHARED_SHEET = ([ROW, ROW], [(0, 0), (0, 1), (1, 0), (1, 1)])

# In what is handed in here the same list stands at several places.
SHARED_CALLS = (
    (turned_table, (SHARED_TABLE,)),
    (totals, (SHARED_TABLE,)),
    (added, ([SHARED_TABLE] * 3,)),
    (put_together, (SHARED_TABLE, [[0], [1]], [[0], [1]])),
    (spans, (SHARED_SHEET,)),
    (span_paper, (SHARED_SHEET, (0, 0))),
    (safe_paper, (SHARED_SHEET, [(0, 0, 1, 1), (0, 1, 1, 1)])),
    (pattern, ([ROW, ROW], [(0, 0, 1, 1)])),
    (fewest, ([ROW, ROW], [(0, 0, 1, 1)])),
    (nearest, (SHARED_TABLE, 5)),
    (fixed, (3, [([0, 1], 2), (ROW[:1], 1)], [0])),
    (all_fixed, (3, [([0, 1], 2), (ROW[:1], 1)], [[0], [2]])),
    (books_of, (PLAN, [STEP, STEP, []])),
    (roots, (PLAN, [STEP, STEP, []], 3)),
    (split, (PLAN, [STEP, STEP, []], FIGURE, 0, 3)),
)
