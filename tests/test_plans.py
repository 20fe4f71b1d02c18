"""Point 4: plans."""

import unittest

from countveil.errors import NoPlan
from countveil.plans import plan_wrong
from countveil.records import book_wrong, fitting, gaps, record_wrong, tallies
from countveil.texts import book_text, plan_text, read_book, read_record, record_text
from tests.samples import ANYTHING, PLANS, refused_with

SORT = ("sex", ("f", "m"))
LETTERS = "abcdef"


def plan_of(sorts, codes):
    """A plan of so many sorts of so many codes each."""
    return tuple((letter * 2, tuple(LETTERS[:codes])) for letter in LETTERS[:sorts])


class RightPlans(unittest.TestCase):
    def test_one_to_four_sorts_of_two_to_six_codes(self):
        for sorts in range(1, 5):
            for codes in range(2, 7):
                self.assertIsNone(plan_wrong(plan_of(sorts, codes)))

    def test_samples(self):
        for plan in PLANS:
            self.assertIsNone(plan_wrong(plan))

    def test_names_of_one_and_eight_letters_codes_of_one_and_four(self):
        self.assertIsNone(plan_wrong((("a", ("z", "zzzz")), ("abcdefgz", ("a", "aaaa")))))

    def test_all_small_letters(self):
        for letter in "abcdefghijklmnopqrstuvwxyz":
            self.assertIsNone(plan_wrong(((letter, (letter, letter * 4)),)))

    def test_two_sorts_may_have_the_same_codes_and_a_code_may_be_a_name(self):
        self.assertIsNone(plan_wrong((("a", ("a", "b")), ("b", ("a", "b")))))


class WrongPlans(unittest.TestCase):
    def test_no_tuple_of_one_to_four(self):
        things = (None, True, False, 0, 1, 7, "", "abc", "ab", (), [], [SORT], plan_of(5, 2), (SORT,) * 5)
        for thing in things:
            self.assertEqual(plan_wrong(thing), ("plan",), thing)

    def test_five_wrong_things_are_no_plan_ahead_of_no_sort(self):
        self.assertEqual(plan_wrong((None,) * 5), ("plan",))

    def test_what_is_no_sort(self):
        codes = ("f", "m")
        things = (
            None, True, False, 0, 1, "", "ab", "a:", (), [], ("sex",), ("sex", codes, codes), ("sex", codes, None),
            list(SORT), (codes, "sex"), ("sex", list(codes)), ("sex", "fm"), ("sex", None), ("sex", True), ("sex", 2),
            (None, codes), (True, codes), (1, codes), (("s",), codes), (["s"], codes),
            ("", codes), ("abcdefghi", codes), ("Sex", codes), ("se x", codes), (" sex", codes), ("sex ", codes),
            ("s-x", codes), ("s1", codes), ("s\n", codes), ("s:", codes), ("`", codes), ("{", codes), ("~", codes),
            ("sex", ()), ("sex", ("f",)), ("sex", tuple("abcdefg")), ("sex", ("f", "")), ("sex", ("f", "abcde")),
            ("sex", ("f", "M")), ("sex", ("f", "-")), ("sex", ("f", "m1")), ("sex", ("f", "m ")), ("sex", ("f", " m")),
            ("sex", ("f", "`")), ("sex", ("f", "{")), ("sex", ("f", "m\n")), ("sex", ("f", "f")),
            ("sex", ("f", "m", "f")), ("sex", ("a", "b", "c", "d", "e", "e")), ("sex", ("f", None)),
            ("sex", (None, "f")), ("sex", ("f", True)), ("sex", ("f", 1)), ("sex", ("f", ("m",))), ("sex", ("f", ["m"])),
            ("sex", (["f"], ["f"])), ("sex", ("f", ())),
        )
        for thing in things:
            self.assertEqual(plan_wrong((thing,)), ("sort", 0), thing)
            self.assertEqual(plan_wrong((SORT, ("age", ("o", "y")), thing)), ("sort", 2), thing)

    def test_the_least_wrong_sort(self):
        for k in range(4):
            for other in range(k, 4):
                sorts = list(plan_of(4, 3))
                sorts[k] = sorts[other] = ("x", ())
                self.assertEqual(plan_wrong(tuple(sorts)), ("sort", k))

    def test_name_of_one_ahead(self):
        one, two, three, four = plan_of(4, 2)
        other = ("aa", ("x", "y"))
        self.assertEqual(plan_wrong((one, one)), ("twice", 1))
        self.assertEqual(plan_wrong((one, other)), ("twice", 1))
        self.assertEqual(plan_wrong((one, two, other)), ("twice", 2))
        self.assertEqual(plan_wrong((one, two, three, other)), ("twice", 3))
        self.assertEqual(plan_wrong((two, one, three, other)), ("twice", 3))
        self.assertEqual(plan_wrong((one, one, two, two)), ("twice", 1))
        self.assertEqual(plan_wrong((one, two, two, one)), ("twice", 2))
        self.assertEqual(plan_wrong((one, one, one, one)), ("twice", 1))

    def test_no_sort_ahead_of_a_name_twice(self):
        one, two, three, four = plan_of(4, 2)
        self.assertEqual(plan_wrong((one, one, None)), ("sort", 2))
        self.assertEqual(plan_wrong((one, one, two, ("aa", ("x", "x")))), ("sort", 3))

    def test_anything(self):
        for thing in ANYTHING:
            self.assertIsInstance(plan_wrong(thing), tuple)

    def test_by_its_name(self):
        self.assertIsNone(plan_wrong(thing=(SORT,)))
        self.assertEqual(plan_wrong(thing=None), ("plan",))


class NoPlanAheadOfAll(unittest.TestCase):
    NONE = (*ANYTHING, (SORT, SORT), (("sex", ("f", "f")),), (SORT,) * 5)

    def test_functions_of_a_plan(self):
        for plan in self.NONE:
            self.assertEqual(refused_with(plan_text, plan), NoPlan, plan)

    def test_functions_of_a_plan_and_anything(self):
        calls = (record_wrong, book_wrong, gaps, tallies, record_text, book_text, read_record, read_book)
        for plan in self.NONE:
            for thing in (*ANYTHING, ("f", 1), [("f", 1)], "f 1"):
                for call in calls:
                    self.assertEqual(refused_with(call, plan, thing), NoPlan, (call, plan, thing))

    def test_fitting(self):
        for plan in self.NONE:
            for thing in (*ANYTHING, [("f", 1)]):
                self.assertEqual(refused_with(fitting, plan, thing, None), NoPlan)
                self.assertEqual(refused_with(fitting, plan, [], thing), NoPlan)


if __name__ == "__main__":
    unittest.main()
