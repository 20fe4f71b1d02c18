"""Point 2: what holds of every call."""

import unittest

from countveil.errors import NoText
from countveil.kinds import is_whole
from countveil.plans import plan_wrong
from countveil.records import book_wrong, fitting, gaps, record_wrong, tallies
from countveil.texts import book_text, plan_text, read_book, read_plan, read_record, record_text
from tests.samples import ANYTHING, PLAN, holds_truth, lists_in, refusal, spoil, unchanged

RECORD = ("f", None, "n", 1)
GAPS_ALL = (None, None, None, 0)
BAD_SORT = (("sex", ("f", "m")), ("age", ("o",)))
TWICE = (("sex", ("f", "m")), ("sex", ("o", "y")))


def book():
    """A book of one's own."""
    return [("f", "old", "n", 1), RECORD, GAPS_ALL, ("m", "y", None, 10 ** 6)]


CALLS = (
    (plan_wrong, lambda: (PLAN,)),
    (plan_wrong, lambda: (BAD_SORT,)),
    (plan_wrong, lambda: (TWICE,)),
    (plan_wrong, lambda: ([list(sort) for sort in PLAN],)),
    (plan_wrong, lambda: ((("sex", ["f", "m"]),),)),
    (record_wrong, lambda: (PLAN, RECORD)),
    (record_wrong, lambda: (PLAN, list(RECORD))),
    (record_wrong, lambda: (PLAN, ("f", "x", "n", 1))),
    (record_wrong, lambda: (PLAN, ("f", ["old"], "n", 1))),
    (record_wrong, lambda: (PLAN, ("f", "old", "n", True))),
    (book_wrong, lambda: (PLAN, book())),
    (book_wrong, lambda: (PLAN, [RECORD, ("f", "x", "n", 1)])),
    (book_wrong, lambda: (PLAN, [RECORD, list(RECORD)])),
    (gaps, lambda: (PLAN, RECORD)),
    (gaps, lambda: (PLAN, GAPS_ALL)),
    (tallies, lambda: (PLAN, book())),
    (tallies, lambda: (PLAN, [])),
    (fitting, lambda: (PLAN, book(), ("f", None, None))),
    (fitting, lambda: (PLAN, book(), (None, None, None))),
    (plan_text, lambda: (PLAN,)),
    (record_text, lambda: (PLAN, RECORD)),
    (book_text, lambda: (PLAN, book())),
    (read_plan, lambda: (plan_text(PLAN),)),
    (read_record, lambda: (PLAN, "f - n 1")),
    (read_book, lambda: (PLAN, "f - n 1\n- - - 0")),
    (read_book, lambda: (PLAN, "")),
)


class WholeNumbers(unittest.TestCase):
    def test_a_truth_is_none(self):
        self.assertFalse(is_whole(True))
        self.assertFalse(is_whole(False))

    def test_ints_are(self):
        for number in (0, 1, -1, 10 ** 30, -(10 ** 30)):
            self.assertTrue(is_whole(number))

    def test_other_things_are_none(self):
        for thing in (None, "", "1", (), (1,), [], [1]):
            self.assertFalse(is_whole(thing))


class EveryCall(unittest.TestCase):
    def test_what_is_handed_in_is_as_ahead(self):
        for call, things in CALLS:
            self.assertTrue(unchanged(call, *things()), call)

    def test_refused_things_are_as_ahead(self):
        for thing in ANYTHING:
            self.assertTrue(unchanged(plan_wrong, thing))
            self.assertTrue(unchanged(plan_text, thing))
            for call in (record_wrong, book_wrong, gaps, tallies, record_text, book_text):
                self.assertTrue(unchanged(call, PLAN, thing), call)
                self.assertTrue(unchanged(call, thing, book()), call)
            self.assertTrue(unchanged(fitting, PLAN, thing, thing))
            self.assertTrue(unchanged(fitting, PLAN, book(), thing))

    def test_of_the_same_the_same_is_told(self):
        for call, things in CALLS:
            self.assertEqual(repr(call(*things())), repr(call(*things())), call)

    def test_changing_what_was_told_changes_no_later_answer(self):
        for call, things in CALLS:
            handed = things()
            ahead = repr(call(*handed))
            spoil(call(*handed))
            self.assertEqual(repr(call(*handed)), ahead, call)
            self.assertEqual(repr(call(*things())), ahead, call)

    def test_each_told_list_is_new_and_stands_at_one_place(self):
        for call, things in CALLS:
            handed = things()
            one, other = call(*handed), call(*handed)
            lists = [*lists_in(one), *lists_in(other), *lists_in(handed)]
            self.assertEqual(len({id(each) for each in lists}), len(lists), call)

    def test_changing_what_was_handed_in_changes_no_answer_told(self):
        for call, things in CALLS:
            handed = things()
            told = call(*handed)
            ahead = repr(told)
            spoil(handed)
            self.assertEqual(repr(told), ahead, call)

    def test_no_truths_in_what_is_told(self):
        for call, things in CALLS:
            self.assertFalse(holds_truth(call(*things())), call)

    def test_numbers_of_refusals_are_no_truths(self):
        for text in ("", "s", "sex: f m\n", "sex: f m\ns"):
            refused = refusal(read_plan, text)
            self.assertIsInstance(refused, NoText)
            self.assertTrue(is_whole(refused.row) and is_whole(refused.at))
        for text in ("x", "f", "f - n 1\n", "f - n 1\nf", "f - n 01"):
            for call in (read_record, read_book):
                refused = refusal(call, PLAN, text)
                self.assertIsInstance(refused, NoText)
                self.assertTrue(is_whole(refused.row) and is_whole(refused.at))


if __name__ == "__main__":
    unittest.main()
