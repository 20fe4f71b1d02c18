"""Point 7: rules."""

import random
import unittest

from countveil.errors import NoPlan, NoRecord, NoRules
from countveil.rules import MOST_RULES, barred_by, rules_wrong
from tests.drawing import draw_plan, draw_record, draw_rule, draw_rules
from tests.samples import ANYTHING, PLAN, PLANS, SMALL, WIDE, refused_with

RULE = (("f",), None, ("n", "s"))
NO_RULES_OF_PLAN = (
    None, True, False, 0, 1, "", "rule", (), [], list(RULE), RULE[:-1], (*RULE, None), (*RULE, ("f",)),
    (None, None, None), ((), None, None), (("f",), (), None), (("f",), None, ()), (("f", "f"), None, None),
    (None, ("old", "mid", "old"), None), (("f", "x"), None, None), (("old",), None, None), (None, ("f",), None),
    (None, None, ("nor",)), (["f"], None, None), (("f",), ["old"], None), ("f", None, None), ((("f",),), None, None),
    ((["f"],), None, None), ((["f"], ["f"]), None, None), ((None,), None, None), (("f", None), None, None),
    ((True,), None, None), ((0,), None, None), (0, None, None), (False, None, None), (("f",), True, None),
    (("f",), "old", None), (("",), None, None), (("f",), None, "n"),
)


class RulesWrong(unittest.TestCase):
    def test_the_number(self):
        self.assertEqual(MOST_RULES, 20)
        self.assertNotIsInstance(MOST_RULES, bool)

    def test_right_ones(self):
        chance = random.Random(70)
        for _ in range(400):
            plan = draw_plan(chance)
            self.assertIsNone(rules_wrong(plan, draw_rules(chance, plan, 20)))

    def test_none_and_twenty(self):
        chance = random.Random(71)
        for plan in PLANS:
            self.assertIsNone(rules_wrong(plan, []))
            self.assertIsNone(rules_wrong(plan, [draw_rule(chance, plan) for _ in range(20)]))
            self.assertIsNone(rules_wrong(plan, [draw_rule(chance, plan)] * 20))

    def test_all_codes_in_any_order(self):
        self.assertIsNone(rules_wrong(PLAN, [(("m", "f"), ("y", "old", "mid"), ("s", "n", "nort", "ne"))]))
        self.assertIsNone(rules_wrong(SMALL, [(("m",),), (("f", "m"),)]))
        self.assertIsNone(rules_wrong(WIDE, [(None, None, None, ("m",)), (tuple("fedcba"), None, None, None)]))

    def test_no_list_of_at_most_twenty(self):
        things = (None, True, False, 0, 7, "", "rules", (), (RULE,), RULE, [RULE] * 21, [None] * 21, [RULE] * 40)
        for thing in things:
            self.assertEqual(rules_wrong(PLAN, thing), ("rules",), thing)

    def test_what_is_no_rule(self):
        for thing in NO_RULES_OF_PLAN:
            self.assertEqual(rules_wrong(PLAN, [thing]), ("rule", 0), thing)
            self.assertEqual(rules_wrong(PLAN, [RULE, RULE, thing, RULE]), ("rule", 2), thing)
            self.assertEqual(rules_wrong(PLAN, [RULE] * 19 + [thing]), ("rule", 19), thing)

    def test_the_least_one(self):
        for k in range(20):
            for other in range(k, 20):
                rules = [RULE] * 20
                rules[k] = rules[other] = (None, None, None)
                self.assertEqual(rules_wrong(PLAN, rules), ("rule", k))

    def test_a_rule_of_another_plan(self):
        self.assertEqual(rules_wrong(SMALL, [(("f",),), RULE]), ("rule", 1))
        self.assertEqual(rules_wrong(PLAN, [(("f",),)]), ("rule", 0))

    def test_anything(self):
        for thing in ANYTHING:
            self.assertIsInstance(rules_wrong(PLAN, thing), tuple, thing)
            self.assertEqual(rules_wrong(PLAN, [thing]), ("rule", 0), thing)
            self.assertEqual(rules_wrong(SMALL, [(thing,)]), ("rule", 0), thing)
            self.assertEqual(rules_wrong(SMALL, [((thing,),)]), ("rule", 0), thing)

    def test_no_plan(self):
        for plan in ANYTHING:
            for thing in (*ANYTHING, [], [RULE]):
                self.assertEqual(refused_with(rules_wrong, plan, thing), NoPlan)

    def test_by_names(self):
        self.assertIsNone(rules_wrong(thing=[RULE], plan=PLAN))


class BarredBy(unittest.TestCase):
    RULES = [
        (("f",), None, None), (None, ("old", "y"), None), (("f",), None, ("n", "s")), (("m",), ("mid",), ("ne",)),
        (("f", "m"), None, None), (("f", "m"), ("old", "mid", "y"), ("n", "ne", "nort", "s")),
    ]

    def test_some(self):
        for record, told in (
            (("f", "old", "n", 0), [0, 1, 2, 4, 5]), (("f", "mid", "ne", 0), [0, 4, 5]), (("m", "mid", "ne", 5), [3, 4, 5]),
            (("m", "mid", "n", 5), [4, 5]), (("m", "y", "nort", 10 ** 6), [1, 4, 5]),
        ):
            self.assertEqual(barred_by(PLAN, self.RULES, record), told, record)

    def test_none_bars_nothing(self):
        for record, told in (
            ((None, None, None, 0), []), (("f", None, None, 0), [0, 4]), ((None, "old", None, 0), [1]),
            (("f", None, "s", 0), [0, 2, 4]), ((None, "y", "s", 0), [1]), (("m", "mid", None, 0), [4]),
            (("m", None, "ne", 0), [4]), ((None, "mid", "ne", 0), []),
        ):
            self.assertEqual(barred_by(PLAN, self.RULES, record), told, record)

    def test_by_the_codes_alone(self):
        for measure in (0, 1, 500, 10 ** 6):
            self.assertEqual(barred_by(PLAN, self.RULES, ("m", "mid", "ne", measure)), [3, 4, 5])

    def test_no_rules_bar_nothing(self):
        self.assertEqual(barred_by(PLAN, [], ("f", "old", "n", 7)), [])

    def test_against_a_second_look(self):
        chance = random.Random(72)
        for _ in range(1500):
            plan = draw_plan(chance)
            rules = draw_rules(chance, plan, 20)
            record = draw_record(chance, plan)
            told = []
            for k, rule in enumerate(rules):
                met = {s: record[s] in codes for s, codes in enumerate(rule) if codes}
                if all(met.values()):
                    told.append(k)
            self.assertEqual(barred_by(plan, rules, record), told)

    def test_by_names(self):
        self.assertEqual(barred_by(record=("m", "mid", "n", 5), rules=self.RULES, plan=PLAN), [4, 5])

    def test_the_order_of_refusals(self):
        record = ("f", "old", "n", 7)
        no_records = (*ANYTHING, record[:-1], list(record), ("x", "old", "n", 7), ("f", "old", "n", True))
        no_rules = (*ANYTHING, (RULE,), [RULE] * 21, [RULE, None], [(None, None, None)])
        for plan in ANYTHING:
            for thing in (*ANYTHING, []):
                self.assertEqual(refused_with(barred_by, plan, thing, record), NoPlan)
                self.assertEqual(refused_with(barred_by, plan, [], thing), NoPlan)
        for rules in no_rules:
            for thing in (*no_records, record):
                self.assertEqual(refused_with(barred_by, PLAN, rules, thing), NoRules, (rules, thing))
        for thing in no_records:
            self.assertEqual(refused_with(barred_by, PLAN, self.RULES, thing), NoRecord, thing)


if __name__ == "__main__":
    unittest.main()
