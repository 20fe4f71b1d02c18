"""Points 10 and 11: books filled from donors."""

import random
import unittest

from countveil.donors import filled, fillings, fillings_judged
from countveil.errors import NoBook, NoCosts, NoPlan, NoRight, NoRules
from countveil.records import book_wrong
from countveil.rules import barred_by
from tests.drawing import (
    barring_all, bent, draw_book, draw_costs, draw_plan, draw_rule, draw_rules, full_codes, is_right, plan_of,
)
from tests.samples import ANYTHING, PLAN, PLANS, SMALL, refused_with

RULES = [(("f",), ("old",), None)]
COSTS = (3, 2, 1)
CALLS = (fillings, filled, lambda *things: fillings_judged(*things, []))


def gives(rules, record):
    return None not in record and is_right(rules, record[:-1])


def patched(record, giver, sorts):
    return tuple(giver[s] if s in sorts else record[s] for s in range(len(record)))


def right_ones(plan, rules):
    """All right codes, in order."""
    return [codes for codes in full_codes(plan) if is_right(rules, codes)]


def second_filling(plan, rules, costs, book, record, rights):
    """The filling of a record, and what it makes, by going on from the nearest giver of all."""
    if gives(rules, record):
        return ("own",), record
    prices = [sum(costs[s] for s in range(len(plan)) if codes[s] != record[s]) for codes in rights]
    mended = (*rights[prices.index(min(prices))], record[-1])
    sorts = {s for s in range(len(plan)) if mended[s] != record[s]}
    by_nearness = sorted(
        (i for i, giver in enumerate(book) if gives(rules, giver)),
        key=lambda i: (
            sum(costs[s] for s in range(len(plan)) if s not in sorts and book[i][s] != record[s]),
            max(book[i][-1], record[-1]) - min(book[i][-1], record[-1]),
            i,
        ),
    )
    for i in by_nearness:
        other = patched(record, book[i], sorts)
        if is_right(rules, other[:-1]):
            return ("donor", i), other
    return ("mended",), mended


def draw_case(chance, many=12):
    """A plan, rules that don't bar all, costs and a book."""
    while True:
        plan = draw_plan(chance, 4, 3)
        rules = draw_rules(chance, plan, chance.choice((1, 3, 6)))
        costs = draw_costs(chance, plan)
        if right_ones(plan, rules):
            return plan, rules, costs, draw_book(chance, plan, chance.randint(0, many), 0.2)


def judged(told, thing):
    """What fillings_judged should tell, where told are the fillings."""
    forms = ([("own", ), ("mended",)])
    if not isinstance(thing, list) or len(thing) != len(told):
        return ("form",)
    for each in thing:
        is_donor = isinstance(each, tuple) and len(each) == 2 and each[0] == "donor" and each[1].__class__ == int
        if each not in forms and not is_donor:
            return ("form",)
    wrong = [k for k in range(len(told)) if told[k] != thing[k]]
    return ("record", wrong[0]) if wrong else None


class Fillings(unittest.TestCase):
    def test_against_a_second_reckoning(self):
        chance = random.Random(100)
        seen = {}
        for _ in range(1500):
            plan, rules, costs, book = draw_case(chance)
            rights = right_ones(plan, rules)
            both = [second_filling(plan, rules, costs, book, record, rights) for record in book]
            self.assertEqual(fillings(plan, rules, costs, book), [filling for filling, record in both])
            self.assertEqual(filled(plan, rules, costs, book), [record for filling, record in both])
            for filling, record in both:
                seen[filling[0]] = seen.get(filling[0], 0) + 1
        self.assertGreater(min(seen.values()), 500, seen)
        self.assertEqual(len(seen), 3)

    def test_own_ones(self):
        book = [("f", "y", "n", 1), ("m", "old", "s", 9)]
        self.assertEqual(fillings(PLAN, RULES, COSTS, book), [("own",), ("own",)])
        self.assertEqual(filled(PLAN, RULES, COSTS, book), book)

    def test_without_rules_gaps_alone_are_filled(self):
        book = [("f", "y", "n", 1), ("m", None, "s", 9), ("f", None, None, 4)]
        self.assertEqual(fillings(PLAN, [], COSTS, book), [("own",), ("donor", 0), ("donor", 0)])
        self.assertEqual(filled(PLAN, [], COSTS, book), [("f", "y", "n", 1), ("m", "y", "s", 9), ("f", "y", "n", 4)])

    def test_the_nearest_by_codes_then_measure_then_place(self):
        gap = ("f", None, "n", 50)
        for givers, i in (
            ([("m", "mid", "n", 50), ("f", "y", "n", 10 ** 6)], 1),
            ([("m", "mid", "n", 50), ("f", "y", "s", 0)], 1),
            ([("f", "mid", "n", 40), ("f", "y", "n", 59)], 1),
            ([("f", "mid", "n", 60), ("f", "y", "n", 41)], 1),
            ([("f", "mid", "n", 60), ("f", "y", "n", 40)], 0),
            ([("f", "mid", "n", 40), ("f", "y", "n", 60)], 0),
            ([("f", "mid", "n", 50), ("f", "y", "n", 50)], 0),
        ):
            self.assertEqual(fillings(PLAN, [], COSTS, [*givers, gap])[2], ("donor", i), givers)
            told = fillings(PLAN, [], COSTS, [gap, *givers])[0]
            self.assertEqual(told, ("donor", i + 1), givers)

    def test_codes_in_the_sorts_to_be_changed_cost_nothing(self):
        # The record to be changed in its second sort has a code there: unlike or not, it isn't counted.
        rules = [(("f",), ("old",), None)]
        book = [("f", "old", "n", 5), ("f", "y", "s", 5), ("m", "old", "n", 5), ("f", "mid", "n", 9)]
        self.assertEqual(fillings(PLAN, rules, (3, 2, 1), book), [("donor", 3), ("own",), ("own",), ("own",)])
        self.assertEqual(filled(PLAN, rules, (3, 2, 1), book)[0], ("f", "mid", "n", 5))

    def test_a_giver_that_does_not_make_it_right_is_no_donor(self):
        book = [("f", "old", "n", 5), ("m", "old", "n", 5)]
        self.assertEqual(fillings(PLAN, RULES, COSTS, book), [("mended",), ("own",)])
        self.assertEqual(filled(PLAN, RULES, COSTS, book), [("f", "mid", "n", 5), ("m", "old", "n", 5)])
        book.append(("m", "y", "s", 900))
        self.assertEqual(fillings(PLAN, RULES, COSTS, book), [("donor", 2), ("own",), ("own",)])
        self.assertEqual(filled(PLAN, RULES, COSTS, book)[0], ("f", "y", "n", 5))

    def test_what_does_not_give_is_no_donor(self):
        book = [(None, "old", "n", 5), ("f", "old", "n", 5), ("f", "y", None, 5)]
        self.assertEqual(fillings(PLAN, RULES, (1, 1, 1), book), [("mended",)] * 3)
        self.assertEqual(
            filled(PLAN, RULES, (1, 1, 1), book), [("m", "old", "n", 5), ("f", "mid", "n", 5), ("f", "y", "n", 5)],
        )

    def test_a_filled_one_gives_nothing_to_others(self):
        # Each is filled from the book as it was handed in.
        book = [("f", None, "n", 5), ("f", None, "n", 5), ("m", "y", "s", 0)]
        self.assertEqual(fillings(PLAN, [], COSTS, book), [("donor", 2), ("donor", 2), ("own",)])

    def test_measures_stay(self):
        chance = random.Random(101)
        for _ in range(200):
            plan, rules, costs, book = draw_case(chance)
            told = filled(plan, rules, costs, book)
            self.assertEqual([record[-1] for record in told], [record[-1] for record in book])
            self.assertIsNone(book_wrong(plan, told))
            for record in told:
                self.assertEqual(barred_by(plan, rules, record), [])
                self.assertNotIn(None, record)

    def test_filled_again_nothing_changes(self):
        chance = random.Random(102)
        for _ in range(100):
            plan, rules, costs, book = draw_case(chance)
            told = filled(plan, rules, costs, book)
            self.assertEqual(fillings(plan, rules, costs, told), [("own",)] * len(book))
            self.assertEqual(filled(plan, rules, costs, told), told)

    def test_sixty_records_and_twenty_rules_of_a_great_plan(self):
        chance = random.Random(103)
        plan = plan_of(6, 6, 6, 6)
        for _ in range(3):
            rules = [draw_rule(chance, plan) for _ in range(20)]
            costs = draw_costs(chance, plan, 1000)
            while not right_ones(plan, rules):
                rules = rules[1:]
            rights = right_ones(plan, rules)
            book = draw_book(chance, plan, 60, 0.2, 10 ** 6)
            told = fillings(plan, rules, costs, book)
            self.assertEqual(told, [second_filling(plan, rules, costs, book, record, rights)[0] for record in book])

    def test_a_book_without_records(self):
        for plan in PLANS:
            self.assertEqual(fillings(plan, [], (1,) * len(plan), []), [])
            self.assertEqual(filled(plan, [], (1,) * len(plan), []), [])
            self.assertIsNone(fillings_judged(plan, [], (1,) * len(plan), [], []))

    def test_by_names(self):
        book = [("f", None, "n", 5), ("m", "y", "s", 0)]
        self.assertEqual(fillings(book=book, costs=COSTS, rules=RULES, plan=PLAN), [("donor", 1), ("own",)])
        self.assertEqual(filled(book=book, costs=COSTS, rules=RULES, plan=PLAN)[0], ("f", "y", "n", 5))
        told = fillings_judged(thing=[("own",)] * 2, book=book, costs=COSTS, rules=RULES, plan=PLAN)
        self.assertEqual(told, ("record", 0))


class Judged(unittest.TestCase):
    BOOK = [("f", "old", "n", 5), ("m", "old", "n", 5), ("m", "y", "s", 9), (None, "old", None, 4)]
    RIGHT = [("donor", 2), ("own",), ("own",), ("donor", 1)]

    def told(self, thing):
        return fillings_judged(PLAN, RULES, COSTS, self.BOOK, thing)

    def test_right_ones(self):
        self.assertEqual(fillings(PLAN, RULES, COSTS, self.BOOK), self.RIGHT)
        self.assertIsNone(self.told(self.RIGHT))

    def test_form(self):
        for thing in (*ANYTHING, [], tuple(self.RIGHT), self.RIGHT[:-1], [*self.RIGHT, ("own",)]):
            self.assertEqual(self.told(thing), ("form",), thing)
        for thing in (
            *ANYTHING, (), [], ["own"], ("own", 1), ("owns",), ("mended", 0), "own", ("donor",), ("donor", True),
            ("donor", None), ("donor", "2"), ("donor", (2,)), ("donor", [2]), ("donor", 2, 2), ("donors", 2),
            ["donor", 2], (2, "donor"), (("donor",), 2), (["donor"], 2), ("own", ("own",)),
        ):
            for k in range(4):
                bent_one = list(self.RIGHT)
                bent_one[k] = thing
                self.assertEqual(self.told(bent_one), ("form",), bent_one)
                bent_one[0] = ("mended",) if k else bent_one[0]
                self.assertEqual(self.told(bent_one), ("form",), bent_one)

    def test_the_least_record(self):
        for k in range(4):
            for other in [("donor", 0), ("donor", 3), ("donor", -1), ("donor", 10 ** 29), ("mended",)]:
                thing = list(self.RIGHT)
                thing[k] = other
                self.assertEqual(self.told(thing), ("record", k), thing)
                thing[3] = ("mended",)
                self.assertEqual(self.told(thing), ("record", k), thing)
        self.assertEqual(self.told([("own",)] * 4), ("record", 0))
        self.assertEqual(self.told([("donor", 2), ("donor", 1), ("own",), ("own",)]), ("record", 1))
        self.assertEqual(self.told([("donor", -2), ("own",), ("own",), ("donor", 1)]), ("record", 0))

    def test_another_donor_that_is_farther(self):
        self.assertEqual(self.told([("donor", 2), ("own",), ("own",), ("donor", 2)]), ("record", 3))

    def test_bent_ones(self):
        chance = random.Random(104)
        seen = {}
        for _ in range(3000):
            plan, rules, costs, book = draw_case(chance, 6)
            told = fillings(plan, rules, costs, book)
            thing = bent(chance, told)
            if chance.random() < 0.3 and book:
                thing = list(told)
                k = chance.randrange(len(book))
                thing[k] = chance.choice((("own",), ("mended",), ("donor", chance.randrange(-1, len(book)))))
            expected = judged(told, thing)
            self.assertEqual(fillings_judged(plan, rules, costs, book, thing), expected, thing)
            seen[expected and expected[0]] = seen.get(expected and expected[0], 0) + 1
        for word in (None, "form", "record"):
            self.assertGreater(seen[word], 100, seen)


class Refusals(unittest.TestCase):
    BOOK = [("f", "old", "n", 5)]

    def each(self, expected, *things):
        for call in CALLS:
            self.assertEqual(refused_with(call, *things), expected, things)

    def test_no_right(self):
        for plan in PLANS:
            costs = (1,) * len(plan)
            full = tuple(codes[0] for name, codes in plan)
            for book in ([], [(*full, 1)], [(None,) * len(plan) + (0,)] * 60):
                self.each(NoRight, plan, barring_all(plan), costs, book)
        self.each(NoRight, SMALL, [(("f", "m"),)], (1,), [])

    def test_no_right_whatever_is_judged(self):
        for thing in (*ANYTHING, [], [("own",)]):
            told = refused_with(fillings_judged, PLAN, barring_all(PLAN), COSTS, self.BOOK, thing)
            self.assertEqual(told, NoRight)

    def test_no_book(self):
        for book in (*ANYTHING, (), tuple(self.BOOK), self.BOOK * 61, [None], [("f", "old", "n", True)]):
            self.each(NoBook, PLAN, RULES, COSTS, book)
            self.each(NoBook, PLAN, barring_all(PLAN), COSTS, book)

    def test_no_costs(self):
        for costs in (*ANYTHING, [3, 2, 1], (3, 2), (3, 2, 1, 1), (3, 2, 0), (3, 2, 1001), (3, 2, True), (3, 2, None)):
            for book in (self.BOOK, None, [None]):
                self.each(NoCosts, PLAN, RULES, costs, book)
                self.each(NoCosts, PLAN, barring_all(PLAN), costs, book)

    def test_no_rules(self):
        for rules in (*ANYTHING, tuple(RULES), RULES * 21, [(None, None, None)], [None]):
            for thing in (None, COSTS, self.BOOK):
                self.each(NoRules, PLAN, rules, thing, thing)

    def test_no_plan(self):
        for plan in ANYTHING:
            self.each(NoPlan, plan, RULES, COSTS, self.BOOK)
            for thing in (None, [], COSTS):
                self.each(NoPlan, plan, thing, thing, thing)


if __name__ == "__main__":
    unittest.main()
