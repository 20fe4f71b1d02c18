"""Point 5: records and books."""

import itertools
import unittest

from countveil.errors import NoBook, NoCodes, NoRecord
from countveil.records import book_wrong, fitting, gaps, record_wrong, tallies
from countveil.texts import book_text, record_text
from tests.samples import ANYTHING, PLAN, PLANS, SMALL, refused_with

RIGHT = ("f", "old", "n", 7)
BOOK = [
    ("f", "old", "n", 7),
    ("m", None, "nort", 0),
    (None, None, None, 10 ** 6),
    ("f", "y", "ne", 3),
    ("f", "old", None, 12),
    ("f", "old", "n", 7),
]
NO_MEASURES = (-1, 10 ** 6 + 1, 10 ** 29, -(10 ** 29), True, False, None, "7", "", (), [], (7,), [7])
NO_CODES = ("x", "F", "", "-", "n", "old", "ol", "ff", "f ", True, False, 0, 1, (), [], ("f",), ["f"], ("f", "m"))


def all_records(plan, measure):
    """Each record of a plan with the measure."""
    return [(*codes, measure) for codes in itertools.product(*[(*codes, None) for name, codes in plan])]


class RecordWrong(unittest.TestCase):
    def test_right_ones(self):
        for plan in PLANS:
            for record in all_records(plan, 5):
                self.assertIsNone(record_wrong(plan, record))

    def test_right_measures(self):
        for measure in (0, 1, 9, 10 ** 6 - 1, 10 ** 6):
            self.assertIsNone(record_wrong(PLAN, ("f", "old", "n", measure)))
            self.assertIsNone(record_wrong(PLAN, (None, None, None, measure)))

    def test_no_tuple_of_so_many(self):
        things = (None, True, 0, "f old n 7", (), [], list(RIGHT), RIGHT[:-1], RIGHT[1:], (*RIGHT, 7), (*RIGHT, None))
        for thing in things:
            self.assertEqual(record_wrong(PLAN, thing), ("record",), thing)
        self.assertEqual(record_wrong(SMALL, ("f",)), ("record",))
        self.assertEqual(record_wrong(SMALL, (7,)), ("record",))
        self.assertEqual(record_wrong(SMALL, "f7"), ("record",))

    def test_no_code_of_its_sort(self):
        for thing in NO_CODES:
            self.assertEqual(record_wrong(PLAN, (thing, "old", "n", 7)), ("code", 0), thing)
        for thing in ("f", "n", "mi", "midd", True, 1, ["mid"]):
            self.assertEqual(record_wrong(PLAN, ("f", thing, "n", 7)), ("code", 1), thing)
        for thing in ("f", "old", "nor", "w", False, 0, ("n",)):
            self.assertEqual(record_wrong(PLAN, ("f", "old", thing, 7)), ("code", 2), thing)

    def test_the_least_code(self):
        self.assertEqual(record_wrong(PLAN, ("f", "x", "x", 7)), ("code", 1))
        self.assertEqual(record_wrong(PLAN, ("x", "x", "x", 7)), ("code", 0))
        self.assertEqual(record_wrong(PLAN, (None, None, "x", 7)), ("code", 2))

    def test_no_measure(self):
        for measure in NO_MEASURES:
            self.assertEqual(record_wrong(PLAN, ("f", "old", "n", measure)), ("measure",), measure)
            self.assertEqual(record_wrong(SMALL, (None, measure)), ("measure",), measure)

    def test_no_code_ahead_of_no_measure(self):
        for measure in NO_MEASURES:
            self.assertEqual(record_wrong(PLAN, ("f", "old", "x", measure)), ("code", 2))

    def test_anything(self):
        for plan in PLANS:
            for thing in ANYTHING:
                self.assertIsInstance(record_wrong(plan, thing), tuple)

    def test_by_names(self):
        self.assertIsNone(record_wrong(thing=RIGHT, plan=PLAN))


class BookWrong(unittest.TestCase):
    def test_right_ones(self):
        for book in ([], [RIGHT], BOOK, [RIGHT] * 60, all_records(PLAN, 1)[:60]):
            self.assertIsNone(book_wrong(PLAN, book))

    def test_no_list_of_at_most_sixty(self):
        things = (None, True, False, 0, "", "f old n 7", (), (RIGHT,), RIGHT, tuple(BOOK), [RIGHT] * 61, [None] * 61)
        for thing in things:
            self.assertEqual(book_wrong(PLAN, thing), ("book",), thing)

    def test_no_record(self):
        for thing, wrong in (
            (None, ("record",)),
            (list(RIGHT), ("record",)),
            ((), ("record",)),
            (("f", "old", "n"), ("record",)),
            (("f", "f", "n", 7), ("code", 1)),
            (("f", "old", "n", True), ("measure",)),
            (("f", "old", "n", -1), ("measure",)),
            (("f", "old", "n", 10 ** 6 + 1), ("measure",)),
        ):
            for many in (0, 1, 5, 59):
                self.assertEqual(book_wrong(PLAN, [RIGHT] * many + [thing]), ("record", many, wrong))
            self.assertEqual(book_wrong(PLAN, [RIGHT, thing, None, RIGHT]), ("record", 1, wrong))

    def test_a_record_of_another_plan(self):
        self.assertEqual(book_wrong(SMALL, [("f", 1), RIGHT]), ("record", 1, ("record",)))

    def test_anything(self):
        for plan in PLANS:
            for thing in ANYTHING:
                self.assertIsInstance(book_wrong(plan, thing), tuple)

    def test_by_names(self):
        self.assertIsNone(book_wrong(thing=BOOK, plan=PLAN))


class Gaps(unittest.TestCase):
    def test_each_record(self):
        for plan in PLANS:
            for record in all_records(plan, 0):
                told = [k for k in range(len(plan)) if record[k] is None]
                self.assertEqual(gaps(plan, record), told)

    def test_some(self):
        self.assertEqual(gaps(PLAN, RIGHT), [])
        self.assertEqual(gaps(PLAN, (None, "old", None, 0)), [0, 2])
        self.assertEqual(gaps(PLAN, (None, None, None, 0)), [0, 1, 2])
        self.assertEqual(gaps(record=("f", None, "n", 0), plan=PLAN), [1])

    def test_no_record(self):
        things = (*ANYTHING, [], RIGHT[:-1], (*RIGHT, 7), list(RIGHT), ("x", "old", "n", 7), ("f", "old", "n", True))
        for thing in things:
            self.assertEqual(refused_with(gaps, PLAN, thing), NoRecord, thing)
            self.assertEqual(refused_with(record_text, PLAN, thing), NoRecord, thing)


class Tallies(unittest.TestCase):
    def test_a_book_with_gaps(self):
        self.assertEqual(tallies(PLAN, BOOK), [[4, 1, 1], [3, 0, 1, 2], [2, 1, 1, 0, 2]])
        self.assertEqual(tallies(book=BOOK, plan=PLAN), tallies(PLAN, BOOK))

    def test_a_book_without_records(self):
        self.assertEqual(tallies(PLAN, []), [[0, 0, 0], [0, 0, 0, 0], [0, 0, 0, 0, 0]])
        self.assertEqual(tallies(SMALL, []), [[0, 0, 0]])

    def test_sixty_records(self):
        self.assertEqual(tallies(SMALL, [("m", 1)] * 60), [[0, 60, 0]])
        self.assertEqual(tallies(PLAN, all_records(PLAN, 0)), [[20, 20, 20], [15, 15, 15, 15], [12, 12, 12, 12, 12]])

    def test_no_book(self):
        for thing in (*ANYTHING, (), tuple(BOOK), [RIGHT] * 61, [("f", "old", "n", True)], [list(RIGHT)]):
            self.assertEqual(refused_with(tallies, PLAN, thing), NoBook, thing)
            self.assertEqual(refused_with(book_text, PLAN, thing), NoBook, thing)


class Fitting(unittest.TestCase):
    def test_a_book_with_gaps(self):
        for codes, told in (
            ((None, None, None), [0, 1, 2, 3, 4, 5]),
            (("f", None, None), [0, 3, 4, 5]),
            (("m", None, None), [1]),
            ((None, "old", None), [0, 4, 5]),
            ((None, "mid", None), []),
            ((None, None, "n"), [0, 5]),
            ((None, None, "s"), []),
            (("f", "old", None), [0, 4, 5]),
            (("f", None, "ne"), [3]),
            ((None, "old", "n"), [0, 5]),
            (("f", "old", "n"), [0, 5]),
            (("m", "old", "n"), []),
        ):
            self.assertEqual(fitting(PLAN, BOOK, codes), told, codes)

    def test_all_codes_of_all_records(self):
        book = all_records(PLAN, 4)
        for codes in [record[:-1] for record in book]:
            told = [
                i for i, record in enumerate(book)
                if not [k for k in range(3) if codes[k] is not None and codes[k] != record[k]]
            ]
            self.assertEqual(fitting(PLAN, book, codes), told)

    def test_a_book_without_records(self):
        self.assertEqual(fitting(PLAN, [], (None, None, None)), [])
        self.assertEqual(fitting(PLAN, [], ("f", "old", "n")), [])

    def test_by_names(self):
        self.assertEqual(fitting(codes=("m", None, None), book=BOOK, plan=PLAN), [1])

    def test_no_codes(self):
        things = (
            *ANYTHING, [], ["f", "old", "n"], ("f", "old"), ("f", "old", "n", 7), ("f", "old", "n", None),
            ("old", "f", "n"), ("f", "old", "nor"), ("f", True, "n"), ("f", 0, "n"), ("f", ["old"], "n"),
            ("f", "old", ("n",)), ("-", "old", "n"), ("", None, None), "fon",
        )
        for thing in things:
            self.assertEqual(refused_with(fitting, PLAN, BOOK, thing), NoCodes, thing)
            self.assertEqual(refused_with(fitting, PLAN, [], thing), NoCodes, thing)
        self.assertEqual(refused_with(fitting, SMALL, [], "f"), NoCodes)
        self.assertEqual(refused_with(fitting, SMALL, [], ["f"]), NoCodes)

    def test_no_book_ahead_of_no_codes(self):
        for book in (*ANYTHING, (), [RIGHT] * 61, [RIGHT, None]):
            for codes in (*ANYTHING, ("f", None, None)):
                self.assertEqual(refused_with(fitting, PLAN, book, codes), NoBook, (book, codes))


if __name__ == "__main__":
    unittest.main()
