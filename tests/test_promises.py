"""Point 2: what holds of every call."""

import inspect
import unittest

from countveil.errors import NoText
from countveil.kinds import is_whole
from countveil.texts import read_book, read_plan, read_record
from tests.calls import ANYTHING_CALLS, CALLS, SHARED_CALLS
from tests.samples import ANYTHING, PLAN, holds_truth, lists_in, refusal, refused_with, spoil, unchanged


class WholeNumbers(unittest.TestCase):
    def test_a_truth_is_none(self):
        self.assertFalse(is_whole(True))
        self.assertFalse(is_whole(False))

    def test_ints_are(self):
        for number in (0, 1, -1, 10 ** 30, -(10 ** 30)):
            self.assertTrue(is_whole(number))

    def test_other_things_are_none(self):
        for thing in (None, "", "1", (), (1,), [], [1]):
            self.assertFalse(is_whole(thing))


class EveryCall(unittest.TestCase):
    def test_what_is_handed_in_is_as_ahead(self):
        for call, things in CALLS:
            self.assertTrue(unchanged(call, *things()), call)

    def test_anything_in_any_place_is_as_ahead(self):
        for call, things in ANYTHING_CALLS:
            for n in range(len(things())):
                for thing in ANYTHING:
                    handed = list(things())
                    handed[n] = thing
                    self.assertTrue(unchanged(call, *handed), (call, n, thing))

    def test_whatever_stands_behind_what_is_refused(self):
        for call, things in ANYTHING_CALLS:
            for n in range(len(things())):
                for thing in (None, 7, [None], ((),)):
                    handed = list(things())
                    handed[n] = thing
                    refused = refusal(call, *handed)
                    if refused is not None:
                        for behind in ANYTHING:
                            handed[n + 1:] = [behind] * (len(handed) - n - 1)
                            self.assertEqual(refused_with(call, *handed), refused.__class__, (call, n, behind))

    def test_called_by_the_names_of_arguments(self):
        named = 0
        for call, things in CALLS:
            kinds = inspect.signature(call).parameters.values()
            names = [each.name for each in kinds if each.kind == inspect.Parameter.POSITIONAL_OR_KEYWORD]
            if call.__module__.startswith("countveil."):
                backward = dict(reversed(list(zip(names, things(), strict=True))))
                self.assertEqual(repr(call(**backward)), repr(call(*things())), call)
                named += 1
        self.assertGreater(named, 100)

    def test_of_the_same_the_same_is_told(self):
        for call, things in CALLS:
            self.assertEqual(repr(call(*things())), repr(call(*things())), call)

    def test_changing_what_was_told_changes_no_later_answer(self):
        for call, things in CALLS:
            handed = things()
            ahead = repr(call(*handed))
            spoil(call(*handed))
            self.assertEqual(repr(call(*handed)), ahead, call)
            self.assertEqual(repr(call(*things())), ahead, call)

    def test_each_told_list_is_new_and_stands_at_one_place(self):
        for call, things in CALLS:
            handed = things()
            one, other = call(*handed), call(*handed)
            lists = [*lists_in(one), *lists_in(other), *lists_in(handed)]
            self.assertEqual(len({id(each) for each in lists}), len(lists), call)

    def test_each_told_list_is_new_where_handed_ones_are_shared(self):
        for call, handed in SHARED_CALLS:
            ahead = repr(handed)
            told = lists_in(call(*handed))
            self.assertGreater(len(told), 0, call)
            self.assertEqual(len({id(each) for each in told}), len(told), call)
            self.assertFalse({id(each) for each in told} & {id(each) for each in lists_in(handed)}, call)
            self.assertEqual(repr(handed), ahead, call)

    def test_changing_what_was_handed_in_changes_no_answer_told(self):
        for call, things in CALLS:
            handed = things()
            told = call(*handed)
            ahead = repr(told)
            spoil(handed)
            self.assertEqual(repr(told), ahead, call)

    def test_no_truths_in_what_is_told(self):
        for call, things in CALLS:
            self.assertFalse(holds_truth(call(*things())), call)

    def test_numbers_of_refusals_are_no_truths(self):
        for text in ("", "s", "sex: f m\n", "sex: f m\ns"):
            refused = refusal(read_plan, text)
            self.assertIsInstance(refused, NoText)
            self.assertTrue(is_whole(refused.row) and is_whole(refused.at))
        for text in ("x", "f", "f - n 1\n", "f - n 1\nf", "f - n 01"):
            for call in (read_record, read_book):
                refused = refusal(call, PLAN, text)
                self.assertIsInstance(refused, NoText)
                self.assertTrue(is_whole(refused.row) and is_whole(refused.at))


if __name__ == "__main__":
    unittest.main()
