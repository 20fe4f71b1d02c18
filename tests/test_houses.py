"""Points 41 to 45: a house of surveys."""

import copy
import random
import time
import unittest

from countveil import errors
from countveil.errors import (
    Fixed, NoBack, NoCosts, NoDeed, NoFigure, NoLeast, NoNumber, NoPattern, NoPlace, NoPlan, NoRecord, NoRight, NoRules,
    NoSort, NotClean, NoTitle, TooGreat, TooMany,
)
from countveil.houses import House
from countveil.mends import mend
from countveil.releases import all_fixed, release_wrong
from countveil.revised import figure_of
from tests.drawing import barring_all, full_codes, plan_of
from tests.samples import ANYTHING, lists_in, refusal, refused_with, spoil
from tests.second_house import TITLES, WORDS, Refused, SecondHouse, draw_deed

PLAN = (("sex", ("f", "m")), ("age", ("old", "mid", "y")))
RULES = [(("f",), ("old",))]
QUESTIONS = ("plan_of", "rules_of", "book_of", "faults", "out", "published", "vintage")
NO_TITLES = (*[thing for thing in ANYTHING if thing != "a"], "", "A", "abcdefghi", "a1", "a ", ("a",), ["a"], b"a".decode() + "\n")
SQUARE = plan_of(2, 2)


def house_with(plan, rules, records, title="a"):
    """A house with one survey of these records."""
    house = House()
    house.begin(title, plan, rules)
    for record in records:
        house.take(title, record)
    return house


def records_of(plan, one, other, cells):
    """Records whose table of two sorts has these cells; in all other sorts the first code."""
    records = []
    for i, row in enumerate(cells):
        for k, many in enumerate(row):
            codes = [codes[0] for name, codes in plan]
            codes[one], codes[other] = plan[one][1][i], plan[other][1][k]
            records += [(*codes, 1)] * many
    return records


def view_of(house):
    """All that a house tells but for its log."""
    titles = house.titles()
    view = {title: {name: getattr(house, name)(title) for name in QUESTIONS} for title in titles}
    for title in titles:
        plan = view[title]["plan_of"]
        view[title]["revised"] = [house.revised(title, ((None,) * len(plan), kind)) for kind in ("count", "measure")]
    return repr((titles, len(house), view))


def full_house():
    """A house with two surveys, two publications, and a vintage behind one of them."""
    house = house_with(SQUARE, [], records_of(SQUARE, 0, 1, [[1, 5], [5, 5]]))
    house.publish("a", 0, 1, 3)
    house.begin("bb", PLAN, copy.deepcopy(RULES))
    house.take("bb", ("f", "old", 3))
    house.fix("a", 0, 2, 9)
    house.publish("a", 1, 0, 3)
    return house


class Begin(unittest.TestCase):
    def test_a_survey_without_records(self):
        house = House()
        self.assertEqual((len(house), house.titles(), house.log()), (0, [], []))
        self.assertIsNone(house.begin("a", PLAN, RULES))
        self.assertEqual((len(house), house.titles()), (1, ["a"]))
        told = [getattr(house, name)("a") for name in QUESTIONS]
        self.assertEqual(told, [PLAN, RULES, [], [], [], [], 0])

    def test_refusals_in_order(self):
        house = House()
        for title in NO_TITLES:
            self.assertEqual(refused_with(house.begin, title, None, None), NoTitle, title)
        self.assertEqual(refused_with(house.begin, "a", None, None), NoPlan)
        self.assertEqual(refused_with(house.begin, "a", list(PLAN), RULES), NoPlan)
        great = plan_of(6, 6, 2)
        for rules in (None, (), [None], [(None, None)], [(("x",), None)], RULES * 21):
            self.assertEqual(refused_with(house.begin, "a", PLAN, rules), NoRules, rules)
            self.assertEqual(refused_with(house.begin, "a", great, [()]), NoRules)
        self.assertEqual(refused_with(house.begin, "a", great, []), TooGreat)
        for title in TITLES[:6]:
            house.begin(title, PLAN, [])
        self.assertEqual(refused_with(house.begin, "new", great, []), TooGreat)
        self.assertEqual(refused_with(house.begin, "new", great, None), NoRules)
        self.assertEqual(refused_with(house.begin, "a", None, None), NoTitle)
        self.assertEqual(refused_with(house.begin, "new", PLAN, []), TooMany)
        self.assertEqual(house.titles(), list(TITLES[:6]))

    def test_thirty_six_fine_cells_and_more(self):
        for many in ((6, 6), (2, 3, 6), (3, 3, 4), (2, 2, 3, 3), (6,), (2, 2, 2, 4)):
            self.assertIsNone(refused_with(House().begin, "a", plan_of(*many), []), many)
        for many in ((6, 6, 2), (5, 4, 2), (3, 3, 5), (2, 2, 2, 5), (6, 6, 6, 6)):
            self.assertEqual(refused_with(House().begin, "a", plan_of(*many), []), TooGreat, many)

    def test_titles_keep_their_order(self):
        house = House()
        for title in ("z", "a", "m"):
            house.begin(title, PLAN, [])
        house.take("z", ("f", "old", 1))
        self.assertEqual(house.titles(), ["z", "a", "m"])
        self.assertIsNone(house.end("z"))
        house.begin("z", SQUARE, [])
        self.assertEqual(house.titles(), ["a", "m", "z"])
        self.assertEqual((house.vintage("z"), house.plan_of("z"), house.book_of("z")), (0, SQUARE, []))
        house.back()
        house.back()
        self.assertEqual((house.titles(), house.vintage("z")), (["z", "a", "m"], 1))


class Records(unittest.TestCase):
    def test_take(self):
        house = House()
        house.begin("a", PLAN, RULES)
        for n, record in enumerate([("f", "old", 1), (None, None, 0), ("m", "y", 10 ** 6)]):
            self.assertEqual(repr(house.take("a", record)), str(n))
        self.assertEqual(house.faults("a"), [0, 1])
        for record in (*ANYTHING, ("f", "old"), ["f", "old", 1], ("f", "x", 1), ("f", "old", True), ("f", "old", -1)):
            self.assertEqual(refused_with(house.take, "a", record), NoRecord, record)
        self.assertEqual(house.vintage("a"), 3)

    def test_the_sixty_first_record(self):
        house = house_with(PLAN, [], [("f", "old", 1)] * 60)
        self.assertEqual(len(house.book_of("a")), 60)
        self.assertEqual(refused_with(house.take, "a", ("f", "old", 1)), TooMany)
        self.assertEqual(refused_with(house.take, "a", None), NoRecord)
        house.drop("a", 59)
        self.assertEqual(house.take("a", ("m", "y", 2)), 59)
        self.assertEqual(house.vintage("a"), 62)

    def test_drop(self):
        house = house_with(PLAN, [], [("f", "old", n) for n in range(4)])
        self.assertIsNone(house.drop("a", 1))
        self.assertEqual([record[-1] for record in house.book_of("a")], [0, 2, 3])
        for number in (*[thing for thing in ANYTHING if thing.__class__ != int], 3, -1, True, False, "0", (0,), 10 ** 29):
            self.assertEqual(refused_with(house.drop, "a", number), NoNumber, number)
        self.assertEqual(len(house.book_of("a")), 3)

    def test_fix(self):
        house = house_with(PLAN, [], [("f", "old", 1)] * 2)
        self.assertIsNone(house.fix("a", 1, 0, "m"))
        house.fix("a", 1, 1, None)
        house.fix("a", 0, 2, 77)
        self.assertEqual(house.book_of("a"), [("f", "old", 77), ("m", None, 1)])
        for number in (*[thing for thing in ANYTHING if thing.__class__ != int], 2, -1, True, False):
            self.assertEqual(refused_with(house.fix, "a", number, None, None), NoNumber, number)
        for place in (*[thing for thing in ANYTHING if thing.__class__ != int], 3, -1, True, False):
            self.assertEqual(refused_with(house.fix, "a", 0, place, "f"), NoPlace, place)
        for place, thing in ((0, "old"), (0, 1), (0, True), (1, "f"), (2, None), (2, -1), (2, 10 ** 6 + 1), (2, True), (2, "1"), (0, [])):
            self.assertEqual(refused_with(house.fix, "a", 0, place, thing), NoRecord, (place, thing))
        self.assertEqual(house.vintage("a"), 5)
        house.fix("a", 0, 2, 77)
        self.assertEqual((house.vintage("a"), house.book_of("a")[0]), (6, ("f", "old", 77)))

    def test_mend(self):
        house = house_with(PLAN, RULES, [("f", "old", 7), ("m", None, 3), ("m", "y", 1)])
        self.assertIsNone(house.mend("a", 0, (5, 1)))
        self.assertIsNone(house.mend("a", 1, (5, 1)))
        self.assertEqual(house.book_of("a"), [("f", "mid", 7), ("m", "old", 3), ("m", "y", 1)])
        self.assertEqual(house.book_of("a")[0], mend(PLAN, RULES, (5, 1), ("f", "old", 7))[1])
        house.mend("a", 2, (1, 1))
        self.assertEqual((house.vintage("a"), house.book_of("a")[2]), (6, ("m", "y", 1)))
        for number in (*[thing for thing in ANYTHING if thing.__class__ != int], 3, -1, True, False):
            self.assertEqual(refused_with(house.mend, "a", number, None), NoNumber, number)
        for costs in (*ANYTHING, (1,), (1, 1, 1), [1, 1], (0, 1), (1, 1001), (1, True), (1, None)):
            self.assertEqual(refused_with(house.mend, "a", 0, costs), NoCosts, costs)
        barred = house_with(PLAN, barring_all(PLAN), [("f", "old", 7)])
        self.assertEqual(refused_with(barred.mend, "a", 0, (0, 0)), NoCosts)
        self.assertEqual(refused_with(barred.mend, "a", 0, (1, 1)), NoRight)
        self.assertEqual((barred.vintage("a"), barred.faults("a")), (1, [0]))

    def test_no_title(self):
        house = full_house()
        for title in (*NO_TITLES, "c", "b"):
            for word, many in WORDS.items():
                if word != "begin":
                    for thing in (None, 0, [()]):
                        call = getattr(house, word)
                        self.assertEqual(refused_with(call, title, *[thing] * (many - 1)), NoTitle, (word, title))
            for name in QUESTIONS:
                self.assertEqual(refused_with(getattr(house, name), title), NoTitle, (name, title))
            self.assertEqual(refused_with(house.revised, title, None), NoTitle, title)


class Publish(unittest.TestCase):
    def test_all_told(self):
        house = house_with(PLAN, [], records_of(PLAN, 0, 1, [[2, 0, 3], [1, 4, 0]]))
        told = house.publish("a", 0, 1, 1)
        self.assertEqual(told, (0, 1, [[2, 0, 3], [1, 4, 0]], [5, 5], [3, 4, 3]))
        cells = [([0], 2), ([1], 0), ([2], 3), ([3], 1), ([4], 4), ([5], 0)]
        rows = [([0, 1, 2], 5), ([3, 4, 5], 5), ([0, 3], 3), ([1, 4], 4), ([2, 5], 3)]
        self.assertEqual(house.out("a"), cells + rows)
        self.assertEqual(house.published("a"), [(10, told)])
        turned = house.publish(least=1, other=0, one=1, title="a")
        self.assertEqual(turned, (1, 0, [[2, 1], [0, 4], [3, 0]], [3, 4, 3], [5, 5]))
        self.assertEqual(house.out("a")[11:], [
            ([0], 2), ([3], 1), ([1], 0), ([4], 4), ([2], 3), ([5], 0), ([0, 3], 3), ([1, 4], 4), ([2, 5], 3), ([0, 1, 2], 5),
            ([3, 4, 5], 5),
        ])
        self.assertEqual(house.published("a"), [(10, told), (10, turned)])

    def test_hidden_ones(self):
        house = house_with(SQUARE, [], records_of(SQUARE, 0, 1, [[1, 5], [5, 5]]))
        told = house.publish("a", 0, 1, 3)
        self.assertEqual(told, (0, 1, [[None, None], [None, None]], [6, 10], [6, 10]))
        self.assertEqual(house.out("a"), [([0, 1], 6), ([2, 3], 10), ([0, 2], 6), ([1, 3], 10)])

    def test_a_survey_without_records(self):
        house = house_with(SQUARE, [], [])
        self.assertEqual(house.publish("a", 1, 0, 10), (1, 0, [[0, 0], [0, 0]], [0, 0], [0, 0]))
        self.assertEqual(house.published("a")[0][0], 0)

    def test_refusals_in_order(self):
        house = house_with(PLAN, RULES, [("m", "old", 1), ("f", "old", 2), ("m", None, 3)])
        no_sorts = [*[thing for thing in ANYTHING if thing.__class__ != int], -1, 2, True, False, 10 ** 29]
        for sort in no_sorts:
            self.assertEqual(refused_with(house.publish, "a", sort, 0, None), NoSort, sort)
            self.assertEqual(refused_with(house.publish, "a", 1, sort, None), NoSort, sort)
        for sort in (0, 1):
            self.assertEqual(refused_with(house.publish, "a", sort, sort, None), NoSort)
        for least in (*[thing for thing in ANYTHING if thing.__class__ != int], 0, 11, -1, True, False, 10 ** 29):
            self.assertEqual(refused_with(house.publish, "a", 0, 1, least), NoLeast, least)
        for number, deed in ((1, ("drop", 1)), (1, ("fix", 1, 1, "y"))):
            refused = refusal(house.publish, "a", 0, 1, 10)
            self.assertEqual((refused.__class__, repr(refused.number)), (NotClean, str(number)))
            house.do(deed[0], ("a", *deed[1:]))
        self.assertEqual(refused_with(house.publish, "a", 0, 1, 10), NoPattern)
        self.assertIsNone(refused_with(house.publish, "a", 0, 1, 1))

    def test_a_plan_of_one_sort(self):
        house = house_with(plan_of(3), [], [])
        for one in (0, 1):
            for other in (0, 1):
                self.assertEqual(refused_with(house.publish, "a", one, other, 1), NoSort)

    def test_nine_barred_cells(self):
        plan = plan_of(3, 3)
        house = house_with(plan, [], records_of(plan, 0, 1, [[3] * 3] * 3))
        self.assertEqual(refused_with(house.publish, "a", 0, 1, 4), TooMany)
        self.assertIsNone(refused_with(house.publish, "a", 0, 1, 3))
        house.take("a", (*full_codes(plan)[4], 0))
        self.assertIsNone(refused_with(house.publish, "a", 0, 1, 4))
        self.assertEqual(len(all_fixed(9, house.out("a"), [[c] for c in range(9) if c != 4])), 0)

    def test_no_pattern(self):
        house = house_with(SQUARE, [], records_of(SQUARE, 0, 1, [[1, 0], [0, 0]]))
        self.assertEqual(refused_with(house.publish, "a", 0, 1, 2), NoPattern)
        self.assertEqual((house.out("a"), house.published("a"), house.vintage("a")), ([], [], 1))

    def test_more_than_forty_rows(self):
        for height, width, right in ((6, 6, False), (5, 6, False), (5, 5, True), (6, 4, True), (4, 6, True)):
            house = house_with(plan_of(height, width), [], [])
            self.assertEqual(refused_with(house.publish, "a", 0, 1, 1), None if right else TooMany, (height, width))
        house = house_with(plan_of(4, 4), [], [])
        house.publish("a", 0, 1, 1)
        self.assertEqual(len(house.out("a")), 24)
        self.assertEqual(refused_with(house.publish, "a", 0, 1, 1), TooMany)
        house = house_with(SQUARE, [], [])
        for many in range(8, 41, 8):
            house.publish("a", 0, 1, 1)
            self.assertEqual(len(house.out("a")), many)
        self.assertEqual(refused_with(house.publish, "a", 0, 1, 1), TooMany)
        self.assertEqual(len(house.published("a")), 5)

    def test_too_many_rows_ahead_of_a_fixed_figure(self):
        plan = plan_of(4, 4)
        cells = [[1, 9, 0, 0], [9, 9, 0, 0], [0] * 4, [0] * 4]
        house = house_with(plan, [], records_of(plan, 0, 1, cells))
        house.publish("a", 0, 1, 3)
        self.assertEqual(refused_with(house.publish, "a", 0, 1, 1), TooMany)

    def test_fixed_by_a_later_publication(self):
        house = house_with(SQUARE, [], records_of(SQUARE, 0, 1, [[5, 1], [5, 2]]))
        house.publish("a", 0, 1, 3)
        ahead = view_of(house)
        refused = refusal(house.publish, "a", 0, 1, 1)
        self.assertEqual((refused.__class__, refused.places), (Fixed, [1]))
        self.assertEqual(view_of(house), ahead)
        house.fix("a", 0, 2, 9)
        self.assertEqual(house.out("a"), [])
        self.assertIsNone(refused_with(house.publish, "a", 0, 1, 1))
        self.assertEqual([vintage for vintage, each in house.published("a")], [13, 14])

    def test_fixed_by_what_is_out(self):
        house = house_with(SQUARE, [], records_of(SQUARE, 0, 1, [[5, 5], [1, 2]]))
        house.publish("a", 0, 1, 1)
        refused = refusal(house.publish, "a", 1, 0, 3)
        # The barred cells in order are (0, 1) and (1, 1) of the turned table.
        self.assertEqual((refused.__class__, refused.places), (Fixed, [2]))

    def test_older_publications_first(self):
        plan = plan_of(2, 2, 2)
        house = house_with(plan, [], [
            *[(*codes, 0) for codes in full_codes(plan) for _ in range(4)], (*full_codes(plan)[7], 0),
        ])
        house.publish("a", 0, 1, 9)
        house.publish("a", 1, 2, 9)
        refused = refusal(house.publish, "a", 0, 1, 1)
        self.assertEqual((refused.__class__, refused.places), (Fixed, [0, 1]))
        refused = refusal(house.publish, "a", 1, 2, 1)
        self.assertEqual((refused.__class__, refused.places), (Fixed, [0, 4]))

    def test_the_places_are_the_askers_own(self):
        house = house_with(SQUARE, [], records_of(SQUARE, 0, 1, [[5, 1], [5, 2]]))
        house.publish("a", 0, 1, 3)
        one = refusal(house.publish, "a", 0, 1, 1).places
        one.append("spoiled")
        self.assertEqual(refusal(house.publish, "a", 0, 1, 1).places, [1])

    def test_great_tables_are_published_soon(self):
        chance = random.Random(420)
        plan = plan_of(6, 6)
        begin = time.perf_counter()
        told = 0
        for _ in range(6):
            cells = [[0] * 6 for _ in range(6)]
            for place in chance.sample(range(36), 8):
                cells[place // 6][place % 6] = chance.randint(1, 3)
            for _ in range(40):
                if sum(map(sum, cells)) < 58:
                    cells[chance.randrange(6)][chance.randrange(6)] += 1
            house = house_with(plan, [], records_of(plan, 0, 1, cells))
            told += refusal(house.publish, "a", 0, 1, 3) is None
        self.assertLess(time.perf_counter() - begin, 30)


class Vintages(unittest.TestCase):
    def test_each_such_deed_begins_one(self):
        house = house_with(PLAN, RULES, [("m", "old", 1)])
        for n, deed in enumerate((
            ("take", ("m", "y", 2)), ("fix", 0, 2, 1), ("fix", 1, 1, "mid"), ("mend", 0, (1, 1)), ("drop", 0),
        )):
            house.publish("a", 0, 1, 1)
            self.assertNotEqual(house.out("a"), [])
            house.do(deed[0], ("a", *deed[1:]))
            self.assertEqual((house.vintage("a"), house.out("a"), len(house.published("a"))), (n + 2, [], n + 1))
        self.assertEqual([vintage for vintage, each in house.published("a")], [1, 2, 3, 4, 5])
        self.assertEqual(house.revised("a", ((None, None), "count")), [0, 1, 2, 2, 2, 2, 1])
        self.assertEqual(house.revised(figure=(("m", "mid"), "measure"), title="a"), [0, 0, 0, 0, 2, 2, 2])

    def test_a_publication_begins_none(self):
        house = full_house()
        ahead = house.vintage("a"), house.revised("a", ((None, None), "count"))
        house.back()
        self.assertEqual((house.vintage("a"), house.revised("a", ((None, None), "count"))), ahead)

    def test_revised_refuses(self):
        house = full_house()
        for figure in (*ANYTHING, ((None,), "count"), ((None, None), "x"), [(None, None), "count"], (("x", None), "count")):
            self.assertEqual(refused_with(house.revised, "a", figure), NoFigure, figure)
            self.assertEqual(refused_with(house.revised, "none", figure), NoTitle)

    def test_surveys_apart(self):
        house = full_house()
        self.assertEqual((house.vintage("a"), house.vintage("bb")), (17, 1))
        self.assertEqual(house.faults("bb"), [0])
        house.end("a")
        self.assertEqual((house.titles(), len(house)), (["bb"], 1))


class BackAndAgain(unittest.TestCase):
    def test_one_by_one(self):
        house = House()
        views = [view_of(house)]
        for deed in (
            ("begin", "a", SQUARE, []), ("take", "a", ("a", "a", 1)), ("publish", "a", 0, 1, 1), ("fix", "a", 0, 2, 3),
            ("mend", "a", 0, (1, 1)), ("begin", "b", PLAN, RULES), ("drop", "a", 0), ("end", "a"),
        ):
            house.do(deed[0], deed[1:])
            views.append(view_of(house))
        for n in range(8, 0, -1):
            self.assertIsNone(house.back())
            self.assertEqual(view_of(house), views[n - 1])
        self.assertEqual(refused_with(house.back), NoBack)
        for n in range(1, 9):
            self.assertIsNone(house.again())
            self.assertEqual(view_of(house), views[n])
        self.assertEqual(refused_with(house.again), NoBack)
        self.assertEqual(view_of(house), views[8])

    def test_no_more_again_behind_a_deed(self):
        house = house_with(SQUARE, [], [("a", "a", 1)])
        house.back()
        house.take("a", ("b", "b", 2))
        self.assertEqual(refused_with(house.again), NoBack)
        house.back()
        house.again()
        self.assertEqual(house.book_of("a"), [("b", "b", 2)])

    def test_again_behind_what_was_no_deed(self):
        for call in (
            lambda house: house.deeds([]), lambda house: refusal(house.take, "a", None), lambda house: refusal(house.deeds, [None]),
            lambda house: refusal(house.deeds, [("take", "a", ("a", "a", 1)), ("drop", "a", 7)]),
            lambda house: refusal(house.deeds, [("drop", "a", 7)], on=True), lambda house: house.book_of("a"),
        ):
            house = house_with(SQUARE, [], [("a", "a", 1)])
            house.back()
            call(house)
            house.again()
            self.assertEqual(house.book_of("a"), [("a", "a", 1)])

    def test_what_was_taken_back_is_out_no_more(self):
        house = house_with(SQUARE, [], records_of(SQUARE, 0, 1, [[5, 1], [5, 2]]))
        house.publish("a", 0, 1, 3)
        house.back()
        self.assertEqual((house.out("a"), house.published("a")), ([], []))
        self.assertIsNone(refused_with(house.publish, "a", 0, 1, 1))


class Deeds(unittest.TestCase):
    ROWS = [("begin", "a", SQUARE, []), ("take", "a", ("a", "b", 4)), ("publish", "a", 0, 1, 1), ("drop", "a", 0)]

    def test_as_one(self):
        house = House()
        told = house.deeds(self.ROWS)
        self.assertEqual(told, [None, 0, (0, 1, [[0, 1], [0, 0]], [1, 0], [0, 1]), None])
        self.assertEqual((house.vintage("a"), len(house.published("a"))), (2, 1))
        ahead = view_of(house)
        house.back()
        self.assertEqual(house.titles(), [])
        self.assertEqual(refused_with(house.back), NoBack)
        house.again()
        self.assertEqual(view_of(house), ahead)
        self.assertEqual(House().deeds(rows=self.ROWS, on=True), told)

    def test_none(self):
        house = House()
        for on in (False, True):
            self.assertEqual(house.deeds([], on=on), [])
        self.assertEqual(refused_with(house.back), NoBack)
        self.assertEqual(house.log(), [("deeds", "begun"), ("deeds", "done")] * 2 + [("back", "refused")])

    def test_a_refused_one_in_the_middle(self):
        rows = [*self.ROWS[:2], ("drop", "a", 5), ("drop", "a", 0)]
        house = House()
        self.assertEqual(refused_with(house.deeds, rows), NoNumber)
        self.assertEqual((house.titles(), refused_with(house.back)), ([], NoBack))
        done = [("deeds", "begun"), ("begin", "done"), ("take", "done"), ("drop", "refused"), ("deeds", "refused")]
        self.assertEqual(house.log(), [*done, ("back", "refused")])
        house = House()
        self.assertIsInstance(refusal(house.deeds, rows, on=True), NoNumber)
        self.assertEqual((house.log(), house.book_of("a")), (done, [("a", "b", 4)]))
        house.back()
        self.assertEqual((house.titles(), refused_with(house.back)), ([], NoBack))

    def test_one_that_is_none(self):
        rows = [
            *ANYTHING, ("begin",), ("begin", "a", SQUARE), ("begin", "a", SQUARE, [], None), ("end",), ("end", "a", "b"), ("take", "a"),
            ("drop", "a"), ("drop", "a", 0, 0), ("fix", "a", 0, 0), ("mend", "a", 0), ("publish", "a", 0, 1), ("back",), ("again",),
            ("deeds", []), ("titles",), ("Begin", "a", SQUARE, []), ["begin", "a", SQUARE, []], ("log",), (None, "a"), (["end"], "a"),
            (("end",), "a"), ("publish", "a", 0, 1, 1, 1),
        ]
        for row in rows:
            for on in (False, True):
                for ahead in (0, 1, 2):
                    house = House()
                    refused = refusal(house.deeds, [*self.ROWS[:ahead], row, None, ("end", "a")], on=on)
                    self.assertEqual((refused.__class__, repr(refused.at)), (NoDeed, str(ahead)), row)
                    self.assertEqual(len(house), int(on and ahead > 0))
                    words = [word for word, ending in house.log()]
                    self.assertEqual(words, ["deeds", "begin", "take"][:ahead + 1] + ["deeds"])
                    self.assertEqual(house.log()[-1], ("deeds", "refused"))
                    self.assertEqual(refused_with(house.back), None if on and ahead else NoBack)

    def test_each_is_looked_at_when_its_turn_comes(self):
        house = House()
        rows = [("begin", "a", SQUARE, []), ("end", "a"), ("take", "a", ("a", "a", 1)), None]
        self.assertEqual(refused_with(house.deeds, rows), NoTitle)
        self.assertEqual([ending for word, ending in house.log()], ["begun", "done", "done", "refused", "refused"])

    def test_what_is_told_is_the_askers_own(self):
        house = House()
        told = house.deeds(copy.deepcopy(self.ROWS))
        ahead = view_of(house)
        spoil(told)
        self.assertEqual(view_of(house), ahead)


class Log(unittest.TestCase):
    def test_call_by_call(self):
        house = House()
        expected = []

        def go_on(ending, word, *things, **named):
            refused = refusal(getattr(house, word), *things, **named)
            self.assertEqual(refused is None, ending == "done", refused)
            expected.append((word, ending))
            self.assertEqual(house.log(), expected)

        go_on("refused", "back")
        go_on("refused", "again")
        go_on("done", "begin", "a", SQUARE, [])
        go_on("refused", "begin", "a", SQUARE, [])
        go_on("done", "take", "a", ("a", "b", 1))
        go_on("refused", "take", "a", ())
        go_on("done", "fix", "a", 0, 0, "b")
        go_on("refused", "fix", "a", 1, 0, "b")
        go_on("done", "mend", "a", 0, (1, 1))
        go_on("refused", "mend", "a", 0, ())
        go_on("done", "publish", "a", 0, 1, 1)
        go_on("refused", "publish", "a", 0, 0, 1)
        go_on("done", "drop", "a", 0)
        go_on("refused", "drop", "a", 0)
        go_on("done", "back")
        go_on("done", "again")
        go_on("refused", "again")
        go_on("done", "end", "a")
        go_on("refused", "end", "a")
        for name in QUESTIONS:
            self.assertEqual(refused_with(getattr(house, name), "a"), NoTitle)
        house.titles()
        self.assertEqual(house.log(), expected)

    def test_it_is_the_askers_own(self):
        house = full_house()
        told = house.log()
        told.append(("end", "done"))
        self.assertEqual(len(house.log()), len(told) - 1)


class Own(unittest.TestCase):
    def test_what_is_told(self):
        house = full_house()
        for title in ("a", "bb"):
            for name in ("rules_of", "book_of", "faults", "out", "published"):
                ahead = view_of(house)
                one, other = getattr(house, name)(title), getattr(house, name)(title)
                lists = [*lists_in(one), *lists_in(other)]
                self.assertEqual(len({id(each) for each in lists}), len(lists), name)
                spoil(one)
                self.assertEqual(view_of(house), ahead, name)
            spoil(house.revised(title, ((None, None), "count")))
            spoil(house.titles())
            self.assertEqual(view_of(house), ahead)
        house.fix("a", 0, 2, 10)
        told = house.publish("a", 0, 1, 3)
        ahead = view_of(house)
        spoil(told)
        self.assertEqual(view_of(house), ahead)
        house.back()
        house.back()
        house.again()
        house.again()
        self.assertEqual(view_of(house), ahead)

    def test_what_is_handed_in(self):
        house = House()
        rules = copy.deepcopy(RULES)
        rows = [("begin", "a", PLAN, rules), ("take", "a", ("f", "old", 1))]
        handed = repr(rows)
        house.deeds(rows)
        self.assertEqual(repr(rows), handed)
        ahead = view_of(house)
        spoil(rows)
        spoil(rules)
        self.assertEqual(view_of(house), ahead)
        self.assertEqual(house.rules_of("a"), RULES)
        rules = copy.deepcopy(RULES)
        house.begin(rules=rules, plan=PLAN, title="b")
        rules.clear()
        self.assertEqual(house.rules_of("b"), RULES)

    def test_two_houses_apart(self):
        one, other = House(), House()
        one.begin("a", PLAN, [])
        self.assertEqual((len(one), len(other), other.log()), (1, 0, []))

    def test_called_by_names(self):
        house = House()
        house.begin(title="a", plan=PLAN, rules=[])
        self.assertEqual(house.take(title="a", record=("f", None, 1)), 0)
        house.fix(title="a", number=0, place=1, thing="old")
        house.mend(title="a", number=0, costs=(1, 1))
        house.publish(title="a", one=0, other=1, least=1)
        for name in QUESTIONS:
            getattr(house, name)(title="a")
        house.drop(title="a", number=0)
        house.end(title="a")
        self.assertEqual({ending for word, ending in house.log()}, {"done"})


class BesideASecondHouse(unittest.TestCase):
    def refused_alike(self, call, second_call):
        """What both tell, or that both refuse alike."""
        try:
            expected = second_call()
        except Refused as why:
            refused = refusal(call)
            self.assertEqual(refused.__class__, getattr(errors, why.word), why.word)
            if why.value is not None:
                bears = {"NotClean": "number", "Fixed": "places", "NoDeed": "at"}[why.word]
                self.assertEqual(repr(getattr(refused, bears)), repr(why.value))
            return why.word
        told = call()
        self.assertEqual(repr(told), repr(expected))
        return None

    def alike(self, house, second, chance):
        self.assertEqual(house.titles(), list(second.surveys))
        self.assertEqual(len(house), len(second.surveys))
        self.assertEqual(house.log(), second.calls)
        for title, survey in second.surveys.items():
            expected = second.view(title)
            self.assertEqual(repr({name: getattr(house, name)(title) for name in expected}), repr(expected))
            plan = survey["plan"]
            codes = tuple(chance.choice((None, *codes)) for name, codes in plan)
            figure = (codes, chance.choice(("count", "measure")))
            worths = [figure_of(plan, book, figure) for book in survey["books"]]
            self.assertEqual(house.revised(title, figure), worths)
            fine = len(full_codes(plan))
            self.assertIsNone(release_wrong(fine, house.out(title)))
            # No figure that was barred when something was published is fixed by all that is out.
            self.assertEqual(all_fixed(fine, house.out(title), survey["barred"]), [])

    def draw_call(self, chance, house, second, words):
        kind = chance.random()
        if kind < 0.08:
            return "back", house.back, second.back
        if kind < 0.13:
            return "again", house.again, second.again
        if kind < 0.2:
            rows = [draw_deed(chance, second, words) for _ in range(chance.randint(0, 4))]
            if chance.random() < 0.2:
                rows.insert(chance.randint(0, len(rows)), chance.choice((None, (), ("end",), ("back",), [])))
            on = chance.random() < 0.5
            return "deeds", lambda: house.deeds(copy.deepcopy(rows), on=on), lambda: second.deeds(rows, on)
        deed = draw_deed(chance, second, words)
        return deed[0], lambda: getattr(house, deed[0])(*copy.deepcopy(deed[1:])), lambda: second.do(deed[0], deed[1:])

    def test_behind_each_of_many_deeds(self):
        seen = {}
        words = ["begin", "end", *["take"] * 14, *["drop"] * 2, *["fix"] * 2, *["mend"] * 2, *["publish"] * 6]
        for seed in range(12):
            chance = random.Random(seed)
            house, second = House(), SecondHouse()
            for n in range(90):
                drawn = ["begin"] if n < 2 else words if n < 60 else [*words, *["publish"] * 30]
                word, call, second_call = self.draw_call(chance, house, second, drawn)
                refused = self.refused_alike(call, second_call)
                seen[word, refused] = seen.get((word, refused), 0) + 1
                self.alike(house, second, chance)
        for word in ("begin", "end", "take", "drop", "fix", "mend", "publish", "back", "again", "deeds"):
            self.assertGreater(seen.get((word, None), 0), 3, (word, seen))
        for refused in ("NoSort", "NotClean", "TooMany", "NoPattern", "Fixed"):
            self.assertGreater(seen.get(("publish", refused), 0), 0, (refused, seen))

    def test_many_publications(self):
        seen = {}
        for seed in range(40):
            chance = random.Random(seed)
            house, second = House(), SecondHouse()
            plan = plan_of(*chance.choice(((2, 2), (2, 3), (3, 3), (2, 2, 2), (2, 3, 2), (3, 2, 2), (2, 2, 2, 2), (4, 3))))
            codes = full_codes(plan)
            rows = [("begin", "a", plan, [])]
            rows += [("take", "a", (*chance.choice(codes), 1)) for _ in range(chance.choice((10, 25, 60)))]
            self.refused_alike(lambda: house.deeds(rows), lambda: second.deeds(rows, False))
            for _ in range(12):
                one, other = chance.sample(range(len(plan)), 2)
                deed = ("publish", "a", one, other, chance.choice((1, 2, 3, 5, 8, 10)))
                if chance.random() < 0.1:
                    deed = ("fix", "a", 0, chance.randrange(len(plan)), codes[0][0])
                call = lambda: house.do(deed[0], deed[1:])
                refused = self.refused_alike(call, lambda: second.do(deed[0], deed[1:]))
                seen[deed[0], refused] = seen.get((deed[0], refused), 0) + 1
                self.alike(house, second, chance)
        for refused in (None, "TooMany", "NoPattern", "Fixed"):
            self.assertGreater(seen.get(("publish", refused), 0), 20, (refused, seen))

    def test_one_begun_anew_tells_the_same(self):
        words = ["begin", "end", *["take"] * 10, "drop", "fix", "mend", *["publish"] * 4]
        for seed in range(20):
            chance = random.Random(seed)
            house, second = House(), SecondHouse()
            standing, undone = [], []
            for n in range(70):
                kind = chance.choice(("deed", "deed", "deed", "deeds", "on", "back", "again")) if n > 2 else "deed"
                if kind in ("back", "again"):
                    taken, kept = (standing, undone) if kind == "back" else (undone, standing)
                    self.assertEqual(self.refused_alike(getattr(house, kind), getattr(second, kind)) is None, bool(taken))
                    kept += [taken.pop()] if taken else []
                    continue
                many = 1 if kind == "deed" else chance.randint(1, 4)
                rows = [draw_deed(chance, second, words) for _ in range(many)]
                ahead = len(house.log()) + 1
                call = lambda: house.deeds(copy.deepcopy(rows), on=kind == "on")
                refused = self.refused_alike(call, lambda: second.deeds(rows, kind == "on"))
                done = [row for row, (word, ending) in zip(rows, house.log()[ahead:-1]) if ending == "done"]
                if done and (kind == "on" or not refused):
                    standing.append(done)
                    undone = []
            anew = House()
            for rows in standing:
                for row in rows:
                    getattr(anew, row[0])(*row[1:])
            self.assertEqual(view_of(anew), view_of(house))


if __name__ == "__main__":
    unittest.main()
