"""Points 8 and 9: costs, mends and their trees."""

import copy
import random
import unittest

from countveil.errors import NoCosts, NoPlan, NoRecord, NoRules
from countveil.mends import mend, mend_judged
from countveil.records import record_wrong
from tests.drawing import (
    barring_all, bars, bent, draw_costs, draw_plan, draw_record, draw_rule, draw_rules, full_codes, is_right, plan_of,
)
from tests.samples import ANYTHING, PLAN, PLANS, SMALL, nested, refused_with

RECORD = ("f", "old", "n", 7)
RULES = [(("f",), ("old",), None)]
COSTS = (3, 2, 1)
NO_COSTS = (
    *ANYTHING, [], list(COSTS), COSTS[:-1], (*COSTS, 1), (0, 2, 1), (3, 1001, 1), (3, 2, -1), (3, True, 1),
    (True, True, True), (3, 2, None), (3, 2, "1"), (3, (2,), 1), (3, [2], 1),
)


def is_number(thing):
    return isinstance(thing, int) and not isinstance(thing, bool)


def is_tree(thing):
    """Whether something is a tree by its form, looked at by a list of what is still to be seen."""
    to_see = [thing]
    while to_see:
        tree = to_see.pop()
        if not isinstance(tree, tuple) or not tree or not isinstance(tree[0], str):
            return False
        word, *rest = tree
        if [word, len(rest)] not in (["sort", 2], ["dear", 0], ["barred", 1]):
            return False
        if rest and not is_number(rest[0]):
            return False
        if word == "sort":
            if not isinstance(rest[1], list):
                return False
            to_see += rest[1]
    return True


def cost_of(costs, record, answers):
    """What the answers, a dict by sorts, cost beside the record."""
    return sum(costs[s] for s, code in answers.items() if record[s] != code)


def wrong_paths(plan, rules, costs, record, cost, tree, path=(), answers=None):
    """All paths at which no tree as told stands, as far down as there is a way."""
    answers = answers or {}
    if tree[0] == "dear":
        return [] if cost is not None and cost_of(costs, record, answers) >= cost else [path]
    if tree[0] == "barred":
        return [] if tree[1] in range(len(rules)) and bars(rules[tree[1]], answers) else [path]
    s, trees = tree[1:]
    if s not in range(len(plan)) or s in answers or len(trees) != len(plan[s][1]):
        return [path]
    found = []
    for n in reversed(range(len(trees))):
        known = {**answers, s: plan[s][1][n]}
        found += wrong_paths(plan, rules, costs, record, cost, trees[n], (*path, n), known)
    return found


def judged(plan, rules, costs, record, thing):
    """What mend_judged should tell."""
    if not isinstance(thing, tuple) or len(thing) != 3 or not (thing[0] is None or is_number(thing[0])):
        return ("mend",)
    cost, mended, tree = thing
    if not is_tree(tree):
        return ("mend",)
    if mended is None or cost is None:
        if (mended, cost) != (None, None):
            return ("record",)
    elif record_wrong(plan, mended) or None in mended or mended[-1] != record[-1]:
        return ("record",)
    elif not is_right(rules, mended[:-1]) or cost_of(costs, record, dict(enumerate(mended[:-1]))) != cost:
        return ("record",)
    wrong = wrong_paths(plan, rules, costs, record, cost, tree)
    return ("tree", min(wrong)) if wrong else None


def least(plan, rules, costs, record):
    """The least cost and all codes of it, in order, of all right full ones; (None, []) where none is."""
    rights = [codes for codes in full_codes(plan) if is_right(rules, codes)]
    if not rights:
        return None, []
    prices = [sum(c for c, one, own in zip(costs, codes, record) if one != own) for codes in rights]
    return min(prices), [codes for codes, price in zip(rights, prices) if price == min(prices)]


def draw_tree(chance, plan, rules, costs, record, cost, answers):
    """Another right tree: sorts in any order, ended anywhere where costs or a rule let."""
    ends = [("barred", k) for k, rule in enumerate(rules) if bars(rule, answers)]
    if cost is not None and cost_of(costs, record, answers) >= cost:
        ends.append(("dear",))
    left = [s for s in range(len(plan)) if s not in answers]
    if ends and (not left or chance.random() < 0.6):
        return chance.choice(ends)
    s = chance.choice(left)
    return ("sort", s, [
        draw_tree(chance, plan, rules, costs, record, cost, {**answers, s: code}) for code in plan[s][1]
    ])


def draw_case(chance, sorts=3, codes=4):
    """A plan, rules, costs and a record; often rules that bar much, at times all."""
    plan = draw_plan(chance, sorts, codes)
    rules = draw_rules(chance, plan, chance.choice((0, 2, 8, 20)))
    if chance.random() < 0.1:
        rules = (rules + barring_all(plan))[-20:]
    return plan, rules, draw_costs(chance, plan), draw_record(chance, plan)


class Mend(unittest.TestCase):
    def check(self, plan, rules, costs, record):
        cost, mended, tree = told = mend(plan, rules, costs, record)
        price, codes = least(plan, rules, costs, record)
        self.assertEqual(cost, price)
        self.assertEqual(mended, (*codes[0], record[-1]) if codes else None)
        self.assertTrue(is_tree(tree))
        self.assertEqual(wrong_paths(plan, rules, costs, record, cost, tree), [])
        self.assertIsNone(mend_judged(plan, rules, costs, record, told))
        return cost

    def test_against_all_full_records(self):
        chance = random.Random(80)
        prices = [self.check(*draw_case(chance)) for _ in range(1500)]
        self.assertGreater(prices.count(None), 50)
        self.assertGreater(prices.count(0), 50)
        self.assertGreater(len(set(prices)), 5)

    def test_of_each_record(self):
        plan = plan_of(2, 3)
        for rules in ([], [(("a",), ("b",))], [(None, ("a", "b")), (("a",), None)], barring_all(plan)):
            for one in ("a", "b", None):
                for other in ("a", "b", "cc", None):
                    self.check(plan, rules, (2, 3), (one, other, 5))

    def test_great_plans(self):
        chance = random.Random(81)
        plan = plan_of(6, 6, 6, 6)
        for _ in range(8):
            rules = [draw_rule(chance, plan) for _ in range(20)]
            self.check(plan, rules, draw_costs(chance, plan, 1000), draw_record(chance, plan))
        for record in (("a", "a", "a", "a", 1), (None, None, None, None, 1)):
            # All full codes but one are barred, by rules that need all four sorts, or one.
            rules = [tuple(codes[:-1] if s == k else None for s, (name, codes) in enumerate(plan)) for k in range(4)]
            self.assertEqual(mend(plan, rules, (1, 1, 1, 1), record)[:2], (4, ("f", "f", "f", "f", 1)))
            self.assertEqual(self.check(plan, [*rules, (("f",),) * 4], (1, 1, 1, 1), record), None)

    def test_a_right_full_record_costs_nothing(self):
        self.assertEqual(mend(PLAN, [], COSTS, RECORD)[:2], (0, RECORD))
        self.assertEqual(mend(PLAN, [(("m",), None, None)], COSTS, RECORD)[:2], (0, RECORD))
        self.assertEqual(mend(PLAN, [(None, None, ("s",))], (1, 1, 1000), ("f", "y", "ne", 0))[:2], (0, ("f", "y", "ne", 0)))

    def test_the_first_of_those_of_the_least_cost(self):
        self.assertEqual(mend(PLAN, [], COSTS, (None, None, None, 4))[:2], (6, ("f", "old", "n", 4)))
        self.assertEqual(mend(PLAN, RULES, (1, 1, 1), RECORD)[:2], (1, ("f", "mid", "n", 7)))
        self.assertEqual(mend(PLAN, RULES, (1, 2, 1), RECORD)[:2], (1, ("m", "old", "n", 7)))
        self.assertEqual(mend(PLAN, RULES, (2, 1, 1), RECORD)[:2], (1, ("f", "mid", "n", 7)))
        # By the places of codes in the plan, not by their letters.
        plan = (("s", ("z", "b", "a")),)
        self.assertEqual(mend(plan, [(("z",),)], (5,), ("z", 1))[:2], (5, ("b", 1)))
        self.assertEqual(mend(plan, [], (5,), (None, 1))[:2], (5, ("z", 1)))

    def test_the_first_sort_goes_ahead(self):
        plan = (("s", ("a", "b")), ("t", ("a", "b")))
        # Either one of the two may be changed, for the same: the codes of the first sort decide.
        self.assertEqual(mend(plan, [(("a",), ("a",))], (1, 1), ("a", "a", 0))[:2], (1, ("a", "b", 0)))
        self.assertEqual(mend(plan, [(("b",), ("a",))], (1, 1), ("b", "a", 0))[:2], (1, ("a", "a", 0)))

    def test_a_gap_costs_what_its_sort_does(self):
        self.assertEqual(mend(PLAN, [], (3, 20, 100), ("f", None, "n", 4))[:2], (20, ("f", "old", "n", 4)))
        self.assertEqual(mend(PLAN, [], (3, 20, 100), (None, "y", None, 4))[:2], (103, ("f", "y", "n", 4)))

    def test_where_rules_bar_all(self):
        for plan in PLANS:
            record = (None,) * len(plan) + (3,)
            cost, mended, tree = mend(plan, barring_all(plan), (1,) * len(plan), record)
            self.assertIsNone(cost)
            self.assertIsNone(mended)
            self.assertEqual(wrong_paths(plan, barring_all(plan), (1,) * len(plan), record, None, tree), [])

    def test_least_and_greatest_costs_and_measures(self):
        self.assertEqual(mend(PLAN, RULES, (1, 1000, 1), ("f", "old", "s", 0))[:2], (1, ("m", "old", "s", 0)))
        self.assertEqual(
            mend(PLAN, RULES, (1000, 1000, 1000), ("f", "old", None, 10 ** 6))[:2], (2000, ("f", "mid", "n", 10 ** 6)),
        )

    def test_by_names(self):
        told = mend(record=RECORD, costs=COSTS, rules=RULES, plan=PLAN)
        self.assertEqual(told, mend(PLAN, RULES, COSTS, RECORD))
        self.assertIsNone(mend_judged(thing=told, record=RECORD, costs=COSTS, rules=RULES, plan=PLAN))


class Judged(unittest.TestCase):
    TREE = ("sort", 0, [("sort", 1, [("barred", 0), ("dear",), ("dear",)]), ("dear",)])
    MEND = (2, ("f", "mid", "n", 7), TREE)

    def told(self, thing, rules=RULES, costs=COSTS, record=RECORD):
        told = mend_judged(PLAN, rules, costs, record, thing)
        self.assertEqual(told, judged(PLAN, rules, costs, record, thing), thing)
        return told

    def test_right_ones(self):
        self.assertIsNone(self.told(self.MEND))
        self.assertIsNone(self.told((2, ("f", "y", "n", 7), self.TREE)))
        other = ("sort", 1, [("sort", 0, [("barred", 0), ("dear",)]), ("dear",), ("dear",)])
        self.assertIsNone(self.told((2, ("f", "mid", "n", 7), other)))
        # Nothing need end as soon as it may.
        later = ("sort", 2, [copy.deepcopy(self.TREE) for _ in range(4)])
        self.assertIsNone(self.told((2, ("f", "mid", "n", 7), later)))

    def test_of_a_right_record(self):
        self.assertIsNone(self.told((0, RECORD, ("dear",)), rules=[]))
        whole = ("sort", 1, [("dear",), ("sort", 0, [("dear",), ("dear",)]), ("dear",)])
        self.assertIsNone(self.told((0, RECORD, whole), rules=[]))

    def test_no_mend(self):
        cost, mended, tree = self.MEND
        things = (
            *ANYTHING, [], list(self.MEND), self.MEND[:2], (*self.MEND, None), (True, mended, tree), ("2", mended, tree),
            ((2, 1), mended, tree), ([2], mended, tree), (2, mended, None), (2, mended, ()), (2, mended, []),
            (2, mended, "dear"), (2, mended, ["dear"]), (2, mended, ("dear", 0)), (2, mended, ("dear", None)),
            (2, mended, ("dead",)), (2, mended, ("barred",)), (2, mended, ("barred", True)), (2, mended, ("barred", None)),
            (2, mended, ("barred", "0")), (2, mended, ("barred", 0, 0)), (2, mended, ("barred", (0,))),
            (2, mended, ("sort",)), (2, mended, ("sort", 0)), (2, mended, ("sort", [])), (2, mended, ("sort", True, [])),
            (2, mended, ("sort", None, [])), (2, mended, ("sort", 0, ())), (2, mended, ("sort", 0, None)),
            (2, mended, ("sort", 0, [], [])), (2, mended, ("sort", 0, [[]])), (2, mended, ("sort", 0, [("dear",), None])),
            (2, mended, (("dear",),)), (2, mended, (["dear"],)), (2, mended, (None,)), (2, mended, (1,)),
            (None, None, None), (None, None, ("sort", 0, [("sort", 0, [("barred", False)])])),
        )
        for thing in things:
            self.assertEqual(self.told(thing), ("mend",), thing)

    def test_the_form_goes_ahead_all_the_way_down(self):
        deep = nested(("barred", True), 45, lambda tree: ("sort", 9, [tree]))
        self.assertEqual(self.told((77, "no record", deep)), ("mend",))
        deep = nested(("barred", 1), 45, lambda tree: ("sort", 9, [("dear",), tree]))
        self.assertEqual(self.told((77, "no record", deep)), ("record",))
        self.assertEqual(self.told((2, ("f", "mid", "n", 7), deep)), ("tree", ()))

    def test_no_record(self):
        for thing in (
            *ANYTHING, [], RECORD, list(self.MEND[1]), ("f", "mid", "n"), ("f", "mid", "n", 7, 7), ("f", "mid", "n", 8),
            ("f", "mid", "n", True), ("f", "mid", None, 7), ("f", "mid", "x", 7), ("m", "old", "n", 7), ("f", "mid", "s", 7),
        ):
            self.assertEqual(self.told((2, thing, self.TREE)), ("record",), thing)
            self.assertEqual(self.told((2, thing, ("barred", 17))), ("record",), thing)

    def test_another_cost(self):
        for cost in (-2, 0, 1, 3, 10 ** 29, None):
            self.assertEqual(self.told((cost, ("f", "mid", "n", 7), self.TREE)), ("record",), cost)
        self.assertEqual(self.told((2, None, self.TREE)), ("record",))

    def test_a_measure_of_another_kind(self):
        self.assertEqual(self.told((2, ("f", "mid", "n", True), self.TREE), record=("f", "old", "n", 1)), ("record",))
        self.assertIsNone(self.told((2, ("f", "mid", "n", 1), self.TREE), record=("f", "old", "n", 1)))

    def test_records_that_cost_more_are_shown_by_no_tree(self):
        self.assertEqual(self.told((3, ("m", "old", "n", 7), self.TREE)), ("tree", (0, 1)))
        self.assertEqual(self.told((3, ("f", "mid", "s", 7), ("dear",))), ("tree", ()))

    def test_least_path(self):
        mended = ("f", "mid", "n", 7)
        for tree, path in (
            (("dear",), ()), (("barred", 0), ()), (("barred", -1), ()), (("barred", 1), ()), (("sort", 3, []), ()),
            (("sort", -1, [("dear",)] * 4), ()), (("sort", 0, []), ()), (("sort", 0, [("dear",)]), ()),
            (("sort", 0, [("dear",)] * 3), ()), (("sort", 0, [("dear",)] * 2), (0,)),
            (("sort", 0, [("sort", 0, [("dear",)] * 2), ("dear",)]), (0,)),
            (("sort", 0, [("sort", 1, [("barred", 0), ("dear",), ("dear",)]), ("barred", 0)]), (1,)),
            (("sort", 0, [("sort", 1, [("barred", 0), ("dear",), ("barred", 0)]), ("barred", 0)]), (0, 2)),
            (("sort", 0, [("sort", 1, [("dear",), ("dear",), ("barred", 0)]), ("barred", 0)]), (0, 0)),
            (("sort", 0, [("sort", 1, [("barred", 0), ("dear",)]), ("barred", 0)]), (0,)),
            (("sort", 0, [("sort", 1, [("barred", 0), ("sort", 1, []), ("dear",)]), ("dear",)]), (0, 1)),
            (("sort", 0, [("sort", 1, [("barred", 0), ("sort", 0, []), ("dear",)]), ("dear",)]), (0, 1)),
        ):
            self.assertEqual(self.told((2, mended, tree)), ("tree", path), tree)

    def test_dear_of_no_cost(self):
        rules = barring_all(PLAN)
        self.assertIsNone(self.told((None, None, ("sort", 0, [("barred", 0), ("barred", 1)])), rules=rules))
        self.assertEqual(self.told((None, None, ("dear",)), rules=rules), ("tree", ()))
        self.assertEqual(self.told((None, None, ("sort", 0, [("barred", 0), ("dear",)])), rules=rules), ("tree", (1,)))
        self.assertEqual(self.told((None, None, ("sort", 0, [("barred", 1), ("dear",)])), rules=rules), ("tree", (0,)))

    def test_no_mend_where_there_is_one(self):
        self.assertEqual(self.told((None, None, self.TREE)), ("tree", (0, 1)))

    def test_a_rule_of_sorts_that_are_not_known(self):
        rules = [(("f",), ("old",), None), (None, None, ("n",))]
        tree = ("sort", 0, [("barred", 1), ("barred", 1)])
        self.assertEqual(self.told((3, ("f", "mid", "s", 7), tree), rules=rules), ("tree", (0,)))

    def test_other_right_trees_and_records(self):
        chance = random.Random(82)
        others = 0
        for _ in range(600):
            plan, rules, costs, record = draw_case(chance)
            cost, all_least = least(plan, rules, costs, record)
            for codes in all_least or [None]:
                tree = draw_tree(chance, plan, rules, costs, record, cost, {})
                mended = codes and (*codes, record[-1])
                self.assertIsNone(mend_judged(plan, rules, costs, record, (cost, mended, tree)))
                others += 1
        self.assertGreater(others, 800)

    def test_bent_ones(self):
        chance = random.Random(83)
        seen = {}
        for _ in range(6000):
            plan, rules, costs, record = draw_case(chance)
            cost, mended, tree = mend(plan, rules, costs, record)
            tree = draw_tree(chance, plan, rules, costs, record, cost, {})
            thing = bent(chance, (cost, mended, tree))
            if chance.random() < 0.2:
                thing = bent(chance, thing)
            told = judged(plan, rules, costs, record, thing)
            self.assertEqual(mend_judged(plan, rules, costs, record, thing), told, thing)
            seen[told and told[:1]] = seen.get(told and told[:1], 0) + 1
        for word in (("mend",), ("record",), ("tree",)):
            self.assertGreater(seen[word], 100, seen)

    def test_trees_of_other_cases(self):
        chance = random.Random(84)
        deep = 0
        for _ in range(3000):
            plan, rules, costs, record = draw_case(chance)
            cost, mended, tree = mend(plan, rules, costs, record)
            other = draw_record(chance, plan)
            tree = mend(plan, draw_rules(chance, plan, 3), costs, other)[2]
            told = judged(plan, rules, costs, record, (cost, mended, tree))
            self.assertEqual(mend_judged(plan, rules, costs, record, (cost, mended, tree)), told)
            deep += told is not None and told[0] == "tree" and len(told[1]) > 1
        self.assertGreater(deep, 100)


class Refusals(unittest.TestCase):
    def test_costs(self):
        for costs in NO_COSTS:
            for record in (RECORD, None, ("x",), [RECORD]):
                self.assertEqual(refused_with(mend, PLAN, RULES, costs, record), NoCosts, costs)
                self.assertEqual(refused_with(mend_judged, PLAN, RULES, costs, record, None), NoCosts, costs)
        for costs in ((1, 1, 1), (1000, 1000, 1000)):
            self.assertIsNone(refused_with(mend, PLAN, RULES, costs, RECORD))
        self.assertEqual(refused_with(mend, SMALL, [], 5, ("f", 1)), NoCosts)
        self.assertEqual(refused_with(mend, SMALL, [], (5, 5), ("f", 1)), NoCosts)

    def test_records(self):
        for record in (*ANYTHING, RECORD[:-1], list(RECORD), ("x", "old", "n", 7), ("f", "old", "n", True), [RECORD]):
            self.assertEqual(refused_with(mend, PLAN, RULES, COSTS, record), NoRecord, record)
            self.assertEqual(refused_with(mend_judged, PLAN, RULES, COSTS, record, None), NoRecord, record)

    def test_rules(self):
        for rules in (*ANYTHING, tuple(RULES), RULES * 21, [(None, None, None)], [(("x",), None, None)]):
            for costs in (COSTS, None, []):
                self.assertEqual(refused_with(mend, PLAN, rules, costs, None), NoRules, rules)
                self.assertEqual(refused_with(mend_judged, PLAN, rules, costs, None, None), NoRules, rules)

    def test_plans(self):
        for plan in ANYTHING:
            for thing in (None, [], RULES):
                self.assertEqual(refused_with(mend, plan, thing, thing, thing), NoPlan, plan)
                self.assertEqual(refused_with(mend_judged, plan, thing, thing, thing, thing), NoPlan, plan)
            self.assertEqual(refused_with(mend, plan, [], COSTS, RECORD), NoPlan)


if __name__ == "__main__":
    unittest.main()
