"""Points 12 to 15: known totals, weights, multipliers and bars."""

import math
import random
import unittest
from fractions import Fraction

from countveil.errors import NoBook, NoKnown, NoPlan
from countveil.weighing import bar_judged, known_wrong, multipliers, weights, weights_barred, weights_judged
from tests.drawing import bent, draw_book, draw_plan, plan_of
from tests.samples import ANYTHING, PLAN, PLANS, SMALL, refused_with

KNOWN = [((0, "f"), 10), ((1, "old"), 4), ((2, "nort"), 0)]
BOOK = [("f", "old", "n", 1), ("f", "y", "nort", 2), ("m", "old", "s", 3), (None, None, None, 4), ("m", "mid", "ne", 5)]
NO_MARGINS = (
    *ANYTHING, [], [0, "f"], (0,), ("f",), (0, "f", 0), (0, "old"), (1, "f"), (3, "f"), (-1, "n"), (-3, "f"),
    (False, "f"), (True, "old"), ("0", "f"), (None, "f"), (0, None), (0, 0), (0, "x"), (0, ("f",)), (0, ["f"]), ("f", 0),
    ((0,), "f"), ([0], "f"), (10 ** 29, "f"), (0, ""),
)
NO_TOTALS = (-1, 10 ** 6 + 1, 10 ** 29, True, False, None, "1", "", (1,), [1], (1, 1), ())


def counted(record, margin):
    return record[margin[0]] == margin[1]


def fractions_of(told):
    """The told fractions as Python's own; each must be one by its form."""
    for top, bottom in told:
        assert top.__class__ == int and bottom.__class__ == int and bottom >= 1 and math.gcd(top, bottom) == 1
    return [Fraction(top, bottom) for top, bottom in told]


def second_weights(book, known):
    """The nearest weights, by making the margins' rows square to each other one after the other."""
    squared = []
    for margin, total in known:
        row = [Fraction(counted(record, margin)) for record in book]
        lack = total - sum(row)
        for other, other_lack in squared:
            share = sum(a * b for a, b in zip(row, other)) / sum(b * b for b in other)
            row = [a - share * b for a, b in zip(row, other)]
            lack -= share * other_lack
        if any(row):
            squared.append((row, lack))
        elif lack:
            return None
    told = [Fraction(1)] * len(book)
    for row, lack in squared:
        share = lack / sum(a * a for a in row)
        told = [weight + share * a for weight, a in zip(told, row)]
    return told


def meets(book, known, numbers):
    return all(
        sum(n for record, n in zip(book, numbers) if counted(record, margin)) == total for margin, total in known
    )


def far(numbers):
    return sum((number - 1) ** 2 for number in numbers)


def is_fraction(thing):
    if thing.__class__ != tuple or len(thing) != 2 or any(number.__class__ != int for number in thing):
        return False
    return thing[1] > 0 and math.gcd(*thing) == 1


def weights_look(book, known, thing):
    """What weights_judged should tell."""
    if thing.__class__ != tuple or [each.__class__ for each in thing] != [list, list]:
        return ("weights",)
    told, numbers = thing
    if (len(told), len(numbers)) != (len(book), len(known)) or not all(map(is_fraction, told + numbers)):
        return ("weights",)
    told, numbers = fractions_of(told), fractions_of(numbers)
    for i, record in enumerate(book):
        if told[i] != 1 + sum(n for (margin, total), n in zip(known, numbers) if counted(record, margin)):
            return ("made", i)
    for k in range(len(known)):
        if not meets(book, known[k:k + 1], told):
            return ("met", k)
    return None


def bar_look(book, known, thing):
    """What bar_judged should tell."""
    if thing.__class__ != list or len(thing) != len(known) or not all(map(is_fraction, thing)):
        return ("bar",)
    numbers = fractions_of(thing)
    for i, record in enumerate(book):
        if sum(n for (margin, total), n in zip(known, numbers) if counted(record, margin)):
            return ("record", i)
    return None if sum(n * total for (margin, total), n in zip(known, numbers)) else ("totals",)


def draw_known(chance, plan, most=30):
    """One to eight known totals of the plan."""
    margins = [(s, code) for s, (name, codes) in enumerate(plan) for code in codes]
    chosen = chance.sample(margins, min(len(margins), chance.randint(1, 8)))
    return [(margin, chance.randint(0, most)) for margin in chosen]


def draw_met_known(chance, plan, book):
    """Known totals that some weights meet: those of weights drawn by chance."""
    drawn = [chance.randint(0, 5) for _ in book]
    return [
        (margin, sum(n for record, n in zip(book, drawn) if counted(record, margin)))
        for margin, total in draw_known(chance, plan)
    ]


def draw_case(chance, many=8):
    plan = draw_plan(chance, 4, 4)
    book = draw_book(chance, plan, chance.randint(0, many))
    known = draw_known(chance, plan) if chance.random() < 0.5 else draw_met_known(chance, plan, book)
    return plan, book, known


def draw_fraction(chance):
    drawn = Fraction(chance.randint(-5, 5), chance.randint(1, 4))
    return (drawn.numerator, drawn.denominator)


class KnownWrong(unittest.TestCase):
    def test_right_ones(self):
        chance = random.Random(120)
        for _ in range(300):
            plan = draw_plan(chance)
            self.assertIsNone(known_wrong(plan, draw_known(chance, plan, 10 ** 6)))
        self.assertIsNone(known_wrong(PLAN, KNOWN))
        self.assertIsNone(known_wrong(thing=[((0, "f"), 0), ((0, "m"), 10 ** 6)], plan=SMALL))

    def test_eight(self):
        plan = plan_of(6, 6)
        eight = [((k % 2, plan[k % 2][1][k // 2]), k) for k in range(8)]
        self.assertIsNone(known_wrong(plan, eight))
        self.assertEqual(known_wrong(plan, [*eight, ((0, "f"), 1)]), ("known",))

    def test_no_list_of_one_to_eight_pairs(self):
        things = (
            None, True, False, 0, "", "known", (), [], tuple(KNOWN), KNOWN * 3, KNOWN[0], [None], [[]], [()], ["ab"],
            [*KNOWN, None], [KNOWN[0], list(KNOWN[1])], [*KNOWN, (1,)], [*KNOWN, (*KNOWN[0], 1)], [(None, None), 7],
        )
        for thing in things:
            self.assertEqual(known_wrong(PLAN, thing), ("known",), thing)

    def test_no_pair_goes_ahead(self):
        self.assertEqual(known_wrong(PLAN, [(None, None), ((0, "f"), -1), [1, 2]]), ("known",))

    def test_no_margin(self):
        for margin in NO_MARGINS:
            self.assertEqual(known_wrong(PLAN, [(margin, 1)]), ("known", 0), margin)
            self.assertEqual(known_wrong(PLAN, [*KNOWN, (margin, 1)]), ("known", 3), margin)

    def test_no_total(self):
        for total in NO_TOTALS:
            self.assertEqual(known_wrong(PLAN, [((0, "f"), total)]), ("known", 0), total)
            self.assertEqual(known_wrong(PLAN, [*KNOWN, ((0, "m"), total), (None, None)]), ("known", 3), total)

    def test_a_margin_twice(self):
        for total in (10, 11):
            self.assertEqual(known_wrong(PLAN, [*KNOWN, ((0, "f"), total)]), ("known", 3))
            self.assertEqual(known_wrong(PLAN, [KNOWN[0], ((0, "f"), total), (None, 1)]), ("known", 1))
        self.assertEqual(known_wrong(PLAN, [KNOWN[0], KNOWN[1], KNOWN[1], KNOWN[0]]), ("known", 2))
        self.assertIsNone(known_wrong(plan_of(2, 2), [((0, "a"), 1), ((1, "a"), 1)]))

    def test_the_least_one(self):
        for k in range(3):
            thing = [*KNOWN[:k], ((0, "f"), -1), *[(None, 1)] * (3 - k)]
            self.assertEqual(known_wrong(PLAN, thing), ("known", k))

    def test_anything(self):
        for plan in PLANS:
            for thing in ANYTHING:
                self.assertIsInstance(known_wrong(plan, thing), tuple)


class Weights(unittest.TestCase):
    def check(self, plan, book, known):
        """Whether weights are told; all of them looked at."""
        told, numbers, bar = weights(plan, book, known), multipliers(plan, book, known), weights_barred(plan, book, known)
        second = second_weights(book, known)
        if second is None:
            self.assertEqual((told, numbers), (None, None))
            self.assertEqual(len(bar), len(known))
            fractions_of(bar)
            self.assertIsNone(bar_look(book, known, bar))
            self.assertIsNone(bar_judged(plan, book, known, bar))
            return False
        self.assertIsNone(bar)
        self.assertEqual(fractions_of(told), second)
        self.assertTrue(meets(book, known, second))
        self.assertEqual(len(numbers), len(known))
        self.assertIsNone(weights_look(book, known, (told, numbers)))
        self.assertIsNone(weights_judged(plan, book, known, (told, numbers)))
        return True

    def test_against_a_second_reckoning(self):
        chance = random.Random(130)
        met = [self.check(*draw_case(chance)) for _ in range(1500)]
        self.assertGreater(met.count(True), 300)
        self.assertGreater(met.count(False), 300)

    def test_thirty_and_sixty_records_and_eight_known_totals(self):
        chance = random.Random(131)
        plan = plan_of(4, 5, 6, 3)
        for many in (30, 30, 30, 60):
            book = draw_book(chance, plan, many, 0.1)
            margins = [(s, code) for s, (name, codes) in enumerate(plan) for code in codes[1:]]
            known = [(margin, chance.randint(0, 10 ** 6)) for margin in chance.sample(margins, 8)]
            self.assertTrue(self.check(plan, book, known))

    def test_others_that_meet_them_are_farther(self):
        chance = random.Random(132)
        others = 0
        for _ in range(400):
            plan = draw_plan(chance, 3, 3)
            book = draw_book(chance, plan, chance.randint(2, 12))
            known = draw_met_known(chance, plan, book)
            told = fractions_of(weights(plan, book, known))
            # Two records that count in the same margins may exchange some of their weights.
            for i in range(len(book)):
                for j in range(i):
                    if all(counted(book[i], margin) == counted(book[j], margin) for margin, total in known):
                        self.assertEqual(told[i], told[j])
                        other = list(told)
                        other[i] += Fraction(1, 7)
                        other[j] -= Fraction(1, 7)
                        self.assertTrue(meets(book, known, other))
                        self.assertLess(far(told), far(other))
                        others += 1
            # So may those on whose weights no known total hangs.
            for i, record in enumerate(book):
                if not any(counted(record, margin) for margin, total in known):
                    self.assertEqual(told[i], 1)
        self.assertGreater(others, 500)

    def test_drawn_weights_that_meet_them_are_no_nearer(self):
        chance = random.Random(133)
        for _ in range(400):
            plan = draw_plan(chance, 3, 3)
            book = draw_book(chance, plan, chance.randint(1, 12))
            drawn = [chance.randint(-2, 5) for _ in book]
            known = [
                (margin, sum(n for record, n in zip(book, drawn) if counted(record, margin)))
                for margin, total in draw_known(chance, plan)
            ]
            if known_wrong(plan, known) is None:
                told = fractions_of(weights(plan, book, known))
                self.assertTrue(told == drawn or far(told) < far(drawn))

    def test_some(self):
        book = [("f", 1), ("f", 2), ("m", 3), (None, 4)]
        self.assertEqual(weights(SMALL, book, [((0, "f"), 5)]), [(5, 2), (5, 2), (1, 1), (1, 1)])
        self.assertEqual(multipliers(SMALL, book, [((0, "f"), 5)]), [(3, 2)])
        self.assertEqual(weights(SMALL, book, [((0, "m"), 0), ((0, "f"), 3)]), [(3, 2), (3, 2), (0, 1), (1, 1)])
        self.assertEqual(weights(SMALL, book, [((0, "f"), 2)]), [(1, 1)] * 4)
        self.assertEqual(multipliers(SMALL, book, [((0, "f"), 2), ((0, "m"), 1)]), [(0, 1), (0, 1)])

    def test_weights_may_lie_below_nought(self):
        plan = plan_of(2, 2)
        book = [("a", "a", 0), ("a", "b", 0), ("b", "a", 0)]
        known = [((0, "a"), 0), ((1, "a"), 9)]
        self.assertTrue(self.check(plan, book, known))
        self.assertLess(min(fractions_of(weights(plan, book, known))), 0)

    def test_margins_that_no_record_counts_in(self):
        book = [("f", 1), ("f", 2)]
        self.assertTrue(self.check(SMALL, book, [((0, "m"), 0)]))
        self.assertTrue(self.check(SMALL, book, [((0, "m"), 0), ((0, "f"), 7)]))
        self.assertFalse(self.check(SMALL, book, [((0, "m"), 1)]))
        self.assertFalse(self.check(SMALL, book, [((0, "f"), 7), ((0, "m"), 1)]))
        bar = weights_barred(SMALL, book, [((0, "f"), 7), ((0, "m"), 1)])
        self.assertEqual(bar[0], (0, 1))
        self.assertNotEqual(bar[1], (0, 1))

    def test_totals_that_say_one_thing_twice(self):
        plan = plan_of(2, 3)
        book = [("a", "a", 0), ("a", "b", 0), ("b", "cc", 0), ("b", "a", 0)]
        whole = [((0, "a"), 5), ((0, "b"), 4), ((1, "a"), 3), ((1, "b"), 2)]
        self.assertTrue(self.check(plan, book, [*whole, ((1, "cc"), 4)]))
        self.assertFalse(self.check(plan, book, [*whole, ((1, "cc"), 5)]))
        # The same records count in one margin of each sort.
        book = [("a", "b", 0), ("a", "b", 1), ("b", "a", 0), (None, "cc", 0)]
        self.assertTrue(self.check(plan, book, [((0, "a"), 5), ((1, "b"), 5)]))
        self.assertFalse(self.check(plan, book, [((0, "a"), 5), ((1, "b"), 6)]))
        self.assertFalse(self.check(plan, book, [((1, "b"), 0), ((0, "a"), 10 ** 6)]))

    def test_a_book_without_records(self):
        for plan in PLANS:
            margins = [(s, codes[0]) for s, (name, codes) in enumerate(plan)]
            noughts = [(margin, 0) for margin in margins]
            self.assertEqual(weights(plan, [], noughts), [])
            self.assertEqual(multipliers(plan, [], noughts), [(0, 1)] * len(plan))
            self.assertTrue(self.check(plan, [], noughts))
            self.assertFalse(self.check(plan, [], [*noughts[:-1], (margins[-1], 3)]))

    def test_records_without_any_answer(self):
        book = [(None, None, None, 5)] * 3
        self.assertTrue(self.check(PLAN, book, [((0, "f"), 0), ((2, "s"), 0)]))
        self.assertFalse(self.check(PLAN, book, [((0, "f"), 0), ((2, "s"), 8)]))

    def test_by_names(self):
        book, known = [("f", 1)], [((0, "f"), 3)]
        self.assertEqual(weights(known=known, book=book, plan=SMALL), [(3, 1)])
        self.assertEqual(multipliers(known=known, book=book, plan=SMALL), [(2, 1)])
        self.assertIsNone(weights_barred(known=known, book=book, plan=SMALL))
        self.assertIsNone(weights_judged(thing=([(3, 1)], [(2, 1)]), known=known, book=book, plan=SMALL))
        self.assertEqual(bar_judged(thing=[(1, 1)], known=known, book=book, plan=SMALL), ("record", 0))


class WeightsJudged(unittest.TestCase):
    BOOK = [("f", 1), ("f", 2), ("m", 3), (None, 4)]
    KNOWN = [((0, "f"), 5), ((0, "m"), 3)]
    RIGHT = ([(5, 2), (5, 2), (3, 1), (1, 1)], [(3, 2), (2, 1)])

    def told(self, told, numbers):
        return weights_judged(SMALL, self.BOOK, self.KNOWN, (told, numbers))

    def test_right_ones(self):
        self.assertIsNone(self.told(*self.RIGHT))

    def test_no_tuple_of_two_lists_of_so_many(self):
        told, numbers = self.RIGHT
        for thing in (
            *ANYTHING, (), [], list(self.RIGHT), (told,), (told, numbers, numbers), (numbers, told), (tuple(told), numbers),
            (told, tuple(numbers)), (told[:-1], numbers), (told + told[:1], numbers), (told, numbers[:1]),
            (told, numbers * 2), (told, None), (None, numbers), ([], []),
        ):
            self.assertEqual(weights_judged(SMALL, self.BOOK, self.KNOWN, thing), ("weights",), thing)

    def test_no_fractions(self):
        for thing in (
            *ANYTHING, [], 5, (5,), (5, 2, 1), [5, 2], (10, 4), (0, 2), (-5, -2), (5, -2), (5, 0), (0, 0), (True, 1),
            (5, True), (False, 1), (None, 1), ("5", 2), (5, None), ((5, 1), 2), (2, 2), (10 ** 29, 10 ** 28),
        ):
            for which, at in ((0, 0), (0, 3), (1, 0), (1, 1)):
                lists = [list(each) for each in self.RIGHT]
                lists[which][at] = thing
                self.assertEqual(self.told(*lists), ("weights",), thing)
                # The form goes ahead of a weight that isn't made.
                lists[0][1] = (7, 1)
                self.assertEqual(self.told(*lists), ("weights",), thing)

    def test_one_that_is_not_made(self):
        told, numbers = self.RIGHT
        for i in range(4):
            for other in ((0, 1), (-5, 2), (10 ** 29, 3), (7, 2)):
                self.assertEqual(self.told([*told[:i], other, *told[i + 1:]], numbers), ("made", i))
                self.assertEqual(self.told([*told[:i], *[other] * (4 - i)], numbers), ("made", i))
        self.assertEqual(self.told(told, [(3, 2), (1, 1)]), ("made", 2))
        self.assertEqual(self.told(told, [(1, 2), (1, 1)]), ("made", 0))

    def test_one_that_is_not_met(self):
        self.assertEqual(self.told([(2, 1), (2, 1), (3, 1), (1, 1)], [(1, 1), (2, 1)]), ("met", 0))
        self.assertEqual(self.told([(5, 2), (5, 2), (2, 1), (1, 1)], [(3, 2), (1, 1)]), ("met", 1))
        self.assertEqual(self.told([(1, 1)] * 4, [(0, 1)] * 2), ("met", 0))

    def test_other_multipliers_that_make_them(self):
        plan = plan_of(2, 2)
        book = [("a", "a", 0), ("b", "b", 0)]
        known = [((0, "a"), 3), ((1, "a"), 3)]
        for one in (Fraction(0), Fraction(2), Fraction(-7, 3), Fraction(10 ** 28, 9)):
            other = 2 - one
            numbers = [(one.numerator, one.denominator), (other.numerator, other.denominator)]
            self.assertIsNone(weights_judged(plan, book, known, ([(3, 1), (1, 1)], numbers)))

    def test_where_none_meet_them(self):
        known = [((0, "f"), 5)]
        self.assertEqual(weights_judged(SMALL, [], known, ([], [(0, 1)])), ("met", 0))
        self.assertEqual(weights_judged(SMALL, [], known, None), ("weights",))
        self.assertEqual(weights_judged(SMALL, [("m", 0)], known, ([(1, 1)], [(4, 1)])), ("met", 0))

    def test_bent_ones(self):
        chance = random.Random(140)
        seen = {}
        for _ in range(3000):
            plan, book, known = draw_case(chance, 5)
            told, numbers = weights(plan, book, known), multipliers(plan, book, known)
            if told is None or chance.random() < 0.3:
                numbers = [draw_fraction(chance) for _ in known]
                made = [
                    1 + sum(n for (margin, total), n in zip(known, fractions_of(numbers)) if counted(record, margin))
                    for record in book
                ]
                told = [(Fraction(weight).numerator, Fraction(weight).denominator) for weight in made]
            thing = (told, numbers) if chance.random() < 0.4 else bent(chance, (told, numbers))
            expected = weights_look(book, known, thing)
            self.assertEqual(weights_judged(plan, book, known, thing), expected, thing)
            seen[expected and expected[0]] = seen.get(expected and expected[0], 0) + 1
        for word in (None, "weights", "made", "met"):
            self.assertGreater(seen[word], 100, seen)


class BarJudged(unittest.TestCase):
    PLAN = plan_of(2, 3)
    BOOK = [("a", "b", 0), ("a", "b", 1), ("b", "a", 0), (None, "cc", 0)]
    KNOWN = [((0, "a"), 5), ((1, "b"), 6), ((0, "b"), 1)]
    RIGHT = [(1, 1), (-1, 1), (0, 1)]

    def told(self, thing):
        return bar_judged(self.PLAN, self.BOOK, self.KNOWN, thing)

    def test_right_ones(self):
        self.assertIsNone(self.told(self.RIGHT))
        self.assertIsNone(self.told([(-7, 3), (7, 3), (0, 1)]))
        self.assertIsNone(self.told(weights_barred(self.PLAN, self.BOOK, self.KNOWN)))

    def test_no_list_of_so_many_fractions(self):
        for thing in (
            *ANYTHING, [], tuple(self.RIGHT), self.RIGHT[:-1], [*self.RIGHT, (0, 1)], [(1, 1), (-1, 1), (0, 2)],
            [(2, 2), (-1, 1), (0, 1)], [(1, 1), (1, -1), (0, 1)], [(1, 1), (-1, 1), (False, 1)],
            [(True, 1), (-1, 1), (0, 1)], [(1, True), (-1, 1), (0, 1)], [1, -1, 0], [(1, 1), (-1, 1), None],
            [[1, 1], (-1, 1), (0, 1)], [(1, 1), (-1, 1), (0, 1, 1)], [(1, 1), (-1, 1), (0, 0)],
        ):
            self.assertEqual(self.told(thing), ("bar",), thing)

    def test_a_record_that_does_not_come_to_nought(self):
        for thing, i in (
            ([(1, 1), (1, 1), (0, 1)], 0), ([(1, 1), (0, 1), (0, 1)], 0), ([(1, 1), (-1, 1), (1, 1)], 2),
            ([(0, 1), (0, 1), (1, 1)], 2), ([(10 ** 29, 1), (-(10 ** 29) + 1, 1), (0, 1)], 0),
        ):
            self.assertEqual(self.told(thing), ("record", i), thing)

    def test_totals_that_come_to_nought(self):
        self.assertEqual(self.told([(0, 1)] * 3), ("totals",))
        known = [((0, "a"), 5), ((1, "b"), 5)]
        self.assertEqual(bar_judged(self.PLAN, self.BOOK, known, [(1, 1), (-1, 1)]), ("totals",))

    def test_where_some_meet_them(self):
        for thing in ([(1, 1)], [(0, 1)], [(-3, 2)]):
            told = bar_judged(SMALL, [("f", 1)], [((0, "f"), 3)], thing)
            self.assertEqual(told, ("totals",) if thing == [(0, 1)] else ("record", 0))

    def test_a_book_without_records(self):
        known = [((0, "f"), 0), ((0, "m"), 3)]
        self.assertIsNone(bar_judged(SMALL, [], known, [(5, 1), (1, 2)]))
        self.assertEqual(bar_judged(SMALL, [], known, [(5, 1), (0, 1)]), ("totals",))

    def test_bent_ones(self):
        chance = random.Random(150)
        seen = {}
        for _ in range(4000):
            plan, book, known = draw_case(chance, 4)
            bar = weights_barred(plan, book, known)
            if bar is None:
                bar = [draw_fraction(chance) if chance.random() < 0.3 else (0, 1) for _ in known]
            thing = bar if chance.random() < 0.4 else bent(chance, bar)
            if chance.random() < 0.3:
                thing = list(bar)
                thing[chance.randrange(len(thing))] = draw_fraction(chance)
            expected = bar_look(book, known, thing)
            self.assertEqual(bar_judged(plan, book, known, thing), expected, thing)
            seen[expected and expected[0]] = seen.get(expected and expected[0], 0) + 1
        for word in (None, "bar", "record", "totals"):
            self.assertGreater(seen[word], 100, seen)


class Refusals(unittest.TestCase):
    CALLS = (
        weights, multipliers, weights_barred, lambda *things: weights_judged(*things, None),
        lambda *things: bar_judged(*things, None),
    )

    def each(self, expected, *things):
        for call in self.CALLS:
            self.assertEqual(refused_with(call, *things), expected, things)

    def test_no_known(self):
        bent_ones = [
            *ANYTHING, [], tuple(KNOWN), KNOWN * 3, [*KNOWN, KNOWN[0]], [*KNOWN, (1,)],
            *[[(margin, 1)] for margin in NO_MARGINS], *[[((0, "f"), total)] for total in NO_TOTALS],
        ]
        for known in bent_ones:
            self.each(NoKnown, PLAN, BOOK, known)
            self.each(NoKnown, PLAN, [], known)

    def test_no_book(self):
        for book in (*ANYTHING, (), tuple(BOOK), BOOK * 13, [*BOOK, None], [("f", "old", "n", True)]):
            for known in (KNOWN, None, []):
                self.each(NoBook, PLAN, book, known)

    def test_no_plan(self):
        for plan in ANYTHING:
            self.assertEqual(refused_with(known_wrong, plan, KNOWN), NoPlan)
            self.assertEqual(refused_with(known_wrong, plan, None), NoPlan)
            self.each(NoPlan, plan, BOOK, KNOWN)
            self.each(NoPlan, plan, None, None)

    def test_a_right_case_is_not_refused(self):
        self.each(None, PLAN, BOOK, KNOWN)


if __name__ == "__main__":
    unittest.main()
