"""Points 33 to 35: figures of a plan, histories, and what each deed changes."""

import random
import unittest

from countveil.errors import NoBook, NoFigure, NoHistory, NoPlan, NoStep
from countveil.records import book_wrong
from countveil.revised import books_of, figure_of, figures, history_wrong, roots, split
from tests.drawing import bent, draw_book, draw_plan, draw_record
from tests.samples import ANYTHING, PLAN, refused_with

HISTORY = [
    [("add", ("f", "old", "n", 3)), ("add", ("m", None, "s", 10))],
    [],
    [("fix", 1, 1, "y"), ("add", ("f", "y", "ne", 5)), ("drop", 0)],
    [("fix", 0, 3, 12), ("fix", 1, 0, None), ("fix", 0, 3, 12)],
]
FIGURE = (("f", None, None), "count")
ADD = ("add", ("f", "old", "n", 3))
NO_FIGURES = (
    *ANYTHING, list(FIGURE), FIGURE[:1], (*FIGURE, None), (list(FIGURE[0]), "count"), (("f", None), "count"),
    (("f", None, None, None), "count"), (("x", None, None), "count"), (("f", None, "old"), "count"),
    (("f", None, None), "counts"), (("f", None, None), None), (("f", None, None), ["count"]), (("f", None, None), 1),
    (("f", None, True), "count"), (("f", None, ["n"]), "measure"), ("count", ("f", None, None)), (None, "count"),
)
NO_HISTORIES = (
    *[thing for thing in ANYTHING if thing not in ([[]], [list(PLAN)])], (), tuple(HISTORY), [()], [tuple(HISTORY[0])], [[()]], [[["add"]]],
    [[None]], [[(None,)]], [[(1, 2)]], [[], None], [None], [[ADD], [ADD, list(ADD)]], [[]] * 13, [[ADD] * 11], "ab",
    [[("x",)]] * 13, [[("x",)] * 11], [[(("add",), 1)]], [[("add", 1), ()]], [[("x",)], "add"], [[(True, ())]],
)


def draw_deed(chance, plan, book):
    """A deed on the book drawn by chance."""
    word = chance.choice(("add", "add", "drop", "fix", "fix")) if book else "add"
    if word == "add":
        return ("add", draw_record(chance, plan))
    number = chance.randrange(len(book))
    if word == "drop":
        return ("drop", number)
    place = chance.randint(0, len(plan))
    if place == len(plan):
        return ("fix", number, place, chance.randint(0, 9))
    return ("fix", number, place, chance.choice((None, *plan[place][1])))


def do(book, deed):
    """The book behind a deed, apart from the program."""
    book = [list(record) for record in book]
    if deed[0] == "add":
        book.append(deed[1])
    elif deed[0] == "drop":
        del book[deed[1]]
    else:
        book[deed[1]][deed[2]] = deed[3]
    return [tuple(record) for record in book]


def draw_history(chance, plan, steps=5, deeds=5):
    """A history of at most so many steps."""
    history, book = [], []
    for _ in range(chance.randint(0, steps)):
        step = []
        for _ in range(chance.randint(0, deeds)):
            step.append(draw_deed(chance, plan, book))
            book = do(book, step[-1])
        history.append(step)
    return history


def draw_figure(chance, plan):
    codes = tuple(chance.choice(codes) if chance.random() < 0.4 else None for name, codes in plan)
    return (codes, chance.choice(("count", "measure")))


def second_worth(book, figure):
    """What a figure is of a book."""
    worth = 0
    for record in book:
        if all(code in (None, answer) for code, answer in zip(figure[0], record)):
            worth += 1 if figure[1] == "count" else record[-1]
    return worth


def all_books(history):
    """The book behind each deed of each step: a dict by (s, d), and (s, -1) for the book ahead of the step."""
    found, book = {}, []
    for s, step in enumerate(history):
        found[s, -1] = book
        for d, deed in enumerate(step):
            book = do(book, deed)
            found[s, d] = book
    found[len(history), -1] = book
    return found


def record_look(plan, thing):
    if thing.__class__ != tuple or len(thing) != len(plan) + 1:
        return False
    if not all(answer is None or answer in codes for answer, (name, codes) in zip(thing, plan)):
        return False
    return thing[-1].__class__ == int and 0 <= thing[-1] <= 1000000


def deed_look(plan, book, deed):
    """The book behind a tuple with a text first, None where it is no deed there."""
    kinds = [each.__class__ for each in deed]
    if deed[0] == "add" and len(deed) == 2:
        return do(book, deed) if len(book) < 60 and record_look(plan, deed[1]) else None
    if deed[0] == "drop" and kinds == [str, int]:
        return do(book, deed) if deed[1] in range(len(book)) else None
    if deed[0] == "fix" and len(deed) == 4 and kinds[1:3] == [int, int]:
        if deed[1] in range(len(book)) and deed[2] in range(len(plan) + 1):
            behind = do(book, deed)
            return behind if record_look(plan, behind[deed[1]]) else None
    return None


def history_look(plan, thing):
    """What history_wrong should tell."""
    if thing.__class__ != list or len(thing) > 12 or any(step.__class__ != list or len(step) > 10 for step in thing):
        return ("history",)
    if any(deed.__class__ != tuple or not deed or deed[0].__class__ != str for step in thing for deed in step):
        return ("history",)
    books = [[]]
    for at in [(s, d) for s in range(len(thing)) for d in range(len(thing[s]))]:
        books.append(deed_look(plan, books[-1], thing[at[0]][at[1]]))
        if books[-1] is None:
            return ("deed", *at)
    return None


class FigureOf(unittest.TestCase):
    def test_some(self):
        book = [("f", "old", "n", 3), ("m", None, "n", 10), ("f", "y", None, 5)]
        self.assertEqual(figure_of(PLAN, book, (("f", None, None), "count")), 2)
        self.assertEqual(figure_of(PLAN, book, (("f", None, None), "measure")), 8)
        self.assertEqual(figure_of(PLAN, book, ((None, None, None), "count")), 3)
        self.assertEqual(figure_of(figure=((None, None, "n"), "measure"), book=book, plan=PLAN), 13)
        self.assertEqual(figure_of(PLAN, [], ((None, None, None), "measure")), 0)

    def test_drawn_ones(self):
        chance = random.Random(330)
        for _ in range(500):
            plan = draw_plan(chance, 3, 3)
            book, figure = draw_book(chance, plan, chance.randint(0, 60)), draw_figure(chance, plan)
            told = figure_of(plan, book, figure)
            self.assertEqual(told, second_worth(book, figure))
            self.assertEqual(told.__class__, int)

    def test_refusals(self):
        book = [("f", "old", "n", 3)]
        for thing in NO_FIGURES:
            self.assertEqual(refused_with(figure_of, PLAN, book, thing), NoFigure, thing)
            self.assertEqual(refused_with(figure_of, PLAN, [None], thing), NoBook, thing)
            self.assertEqual(refused_with(figure_of, None, [None], thing), NoPlan, thing)
        for thing in ANYTHING:
            self.assertEqual(refused_with(figure_of, thing, book, FIGURE), NoPlan, thing)
            self.assertEqual(refused_with(figure_of, PLAN, thing, FIGURE), NoBook, thing)


class HistoryWrong(unittest.TestCase):
    def test_right_ones(self):
        for history in ([], [[]], [[]] * 12, HISTORY, [[ADD] * 10], [[ADD] * 10] * 6):
            self.assertIsNone(history_wrong(PLAN, history), history)
        self.assertIsNone(history_wrong(thing=HISTORY, plan=PLAN))

    def test_no_history_by_its_form(self):
        for thing in NO_HISTORIES:
            self.assertEqual(history_wrong(PLAN, thing), ("history",), thing)

    def test_the_form_of_all_ahead_of_any_deed(self):
        self.assertEqual(history_wrong(PLAN, [[("drop", 0)], [None]]), ("history",))
        self.assertEqual(history_wrong(PLAN, [[("drop", 0)], [("add",)], ()]), ("history",))
        self.assertEqual(history_wrong(PLAN, [[("drop", 0)], [("add",)], []]), ("deed", 0, 0))

    def test_no_deeds(self):
        for deed in (
            ("",), ("add",), ("Add", ADD[1]), ("take", ADD[1]), ("add", ADD[1], None), ("add", list(ADD[1])),
            ("add", ("f", "old", "n")), ("add", ("f", "x", "n", 3)), ("add", ("f", "old", "n", -1)), ("add", None),
            ("drop",), ("drop", 1), ("drop", -1), ("drop", True), ("drop", False), ("drop", None), ("drop", "0"),
            ("drop", 0, 0), ("drop", (0,)), ("fix",), ("fix", 0), ("fix", 0, 0), ("fix", 0, 0, "f", None),
            ("fix", 1, 0, "f"), ("fix", -1, 0, "f"), ("fix", True, 0, "f"), ("fix", False, 0, "f"), ("fix", None, 0, "f"),
            ("fix", 0, -1, 3), ("fix", 0, 4, 3), ("fix", 0, True, "old"), ("fix", 0, False, "f"), ("fix", 0, None, "f"),
            ("fix", 0, 0, "old"), ("fix", 0, 0, 1), ("fix", 0, 0, ["f"]), ("fix", 0, 3, None), ("fix", 0, 3, -1),
            ("fix", 0, 3, 10 ** 6 + 1), ("fix", 0, 3, True), ("fix", 0, 3, "3"), ("fix", 0, 1, ()), ("fix", (0,), 0, "f"),
            ("fix", [0], [0], []), ("drop", [0]), ("add", [ADD]),
        ):
            self.assertEqual(history_wrong(PLAN, [[ADD, deed, ("x",)]]), ("deed", 0, 1), deed)
            self.assertEqual(history_wrong(PLAN, [[], [ADD], [], [deed], [deed]]), ("deed", 3, 0), deed)
            self.assertEqual(refused_with(books_of, PLAN, [[ADD, deed]]), NoHistory, deed)

    def test_deeds_at_the_edges(self):
        for deed in (
            ("drop", 0), ("fix", 0, 0, None), ("fix", 0, 0, "f"), ("fix", 0, 2, "s"), ("fix", 0, 3, 0), ("fix", 0, 3, 10 ** 6),
        ):
            self.assertIsNone(history_wrong(PLAN, [[ADD, deed]]), deed)
            self.assertEqual(history_wrong(PLAN, [[deed, ADD]]), ("deed", 0, 0), deed)

    def test_numbers_as_the_book_then_is(self):
        self.assertIsNone(history_wrong(PLAN, [[ADD, ADD, ("drop", 1), ADD, ("drop", 1), ("drop", 0)]]))
        self.assertEqual(history_wrong(PLAN, [[ADD, ADD, ("drop", 0)], [("drop", 1)]]), ("deed", 1, 0))
        self.assertEqual(history_wrong(PLAN, [[ADD, ("drop", 0), ("fix", 0, 0, "f")]]), ("deed", 0, 2))

    def test_twelve_steps_and_ten_deeds(self):
        lasting = [ADD, ("drop", 0)] * 5
        self.assertIsNone(history_wrong(PLAN, [lasting] * 12))
        self.assertEqual(history_wrong(PLAN, [lasting] * 13), ("history",))
        self.assertEqual(history_wrong(PLAN, [[*lasting, ADD]]), ("history",))

    def test_the_sixty_first_record(self):
        full = [[ADD] * 10] * 6
        self.assertEqual(len(books_of(PLAN, full)[-1]), 60)
        self.assertEqual(history_wrong(PLAN, [*full, [ADD]]), ("deed", 6, 0))
        self.assertIsNone(history_wrong(PLAN, [*full, [("drop", 3), ADD]]))
        self.assertEqual(history_wrong(PLAN, [*full, [("drop", 3), ADD, ("fix", 59, 3, 4), ADD]]), ("deed", 6, 3))

    def test_bent_ones(self):
        chance = random.Random(331)
        seen = {}
        for _ in range(6000):
            plan = draw_plan(chance, 3, 3)
            thing = bent(chance, draw_history(chance, plan))
            expected = history_look(plan, thing)
            self.assertEqual(history_wrong(plan, thing), expected, (plan, thing))
            seen[expected and expected[0]] = seen.get(expected and expected[0], 0) + 1
        for word in (None, "history", "deed"):
            self.assertGreater(seen[word], 300, seen)

    def test_no_plan(self):
        for thing in ANYTHING:
            self.assertEqual(refused_with(history_wrong, thing, HISTORY), NoPlan, thing)


class Histories(unittest.TestCase):
    def test_some(self):
        one, two = ("f", "old", "n", 3), ("m", None, "s", 10)
        self.assertEqual(books_of(PLAN, HISTORY), [
            [], [one, two], [one, two], [("m", "y", "s", 10), ("f", "y", "ne", 5)],
            [("m", "y", "s", 12), (None, "y", "ne", 5)],
        ])
        self.assertEqual(figures(PLAN, HISTORY, FIGURE), [0, 1, 1, 1, 0])
        self.assertEqual(figures(PLAN, HISTORY, ((None, "y", None), "measure")), [0, 0, 0, 15, 17])
        self.assertEqual(split(PLAN, HISTORY, FIGURE, 0, 4), [(0, 0, 1), (2, 1, 1), (2, 2, -1), (3, 1, -1)])
        self.assertEqual(split(PLAN, HISTORY, FIGURE, 2, 3), [(2, 1, 1), (2, 2, -1)])
        self.assertEqual(split(PLAN, HISTORY, FIGURE, 1, 2), [])
        self.assertEqual(roots(PLAN, HISTORY, 4), [[(0, 1), (2, 0), (3, 0), (3, 2)], [(2, 1), (3, 1)]])
        self.assertEqual(roots(PLAN, HISTORY, 2), [[(0, 0)], [(0, 1)]])
        self.assertEqual(roots(PLAN, HISTORY, 0), [])
        self.assertEqual((books_of(PLAN, []), figures(PLAN, [], FIGURE), roots(PLAN, [], 0)), ([[]], [0], []))
        self.assertEqual(split(PLAN, [], FIGURE, 0, 0), [])

    def test_by_names(self):
        self.assertEqual(books_of(history=HISTORY, plan=PLAN), books_of(PLAN, HISTORY))
        self.assertEqual(figures(figure=FIGURE, history=HISTORY, plan=PLAN), figures(PLAN, HISTORY, FIGURE))
        told = split(other=4, one=1, figure=FIGURE, history=HISTORY, plan=PLAN)
        self.assertEqual(told, split(PLAN, HISTORY, FIGURE, 1, 4))
        self.assertEqual(roots(many=3, history=HISTORY, plan=PLAN), roots(PLAN, HISTORY, 3))

    def test_books_and_figures_of_drawn_ones(self):
        chance = random.Random(340)
        for _ in range(400):
            plan = draw_plan(chance, 3, 3)
            history, figure = draw_history(chance, plan, 12, 10), draw_figure(chance, plan)
            found = all_books(history)
            books = [[]] + [found[s + 1, -1] for s in range(len(history))]
            told = books_of(plan, history)
            self.assertEqual(told, books)
            self.assertTrue(all(book_wrong(plan, book) is None for book in told))
            self.assertEqual(figures(plan, history, figure), [second_worth(book, figure) for book in books])

    def test_split_of_drawn_ones(self):
        chance = random.Random(350)
        several = 0
        for _ in range(400):
            plan = draw_plan(chance, 3, 3)
            history, figure = draw_history(chance, plan, 8, 8), draw_figure(chance, plan)
            found = all_books(history)
            one, other = sorted((chance.randint(0, len(history)), chance.randint(0, len(history))))
            expected = []
            for s in range(one, other):
                for d in range(len(history[s])):
                    change = second_worth(found[s, d], figure) - second_worth(found[s, d - 1], figure)
                    if change:
                        expected.append((s, d, change))
            told = split(plan, history, figure, one, other)
            self.assertEqual(told, expected)
            worths = figures(plan, history, figure)
            self.assertEqual(sum(change for s, d, change in told), worths[other] - worths[one])
            several += len(told) > 2
        self.assertGreater(several, 50)

    def test_roots_of_drawn_ones(self):
        chance = random.Random(351)
        fixed_often = 0
        for _ in range(400):
            plan = draw_plan(chance, 3, 3)
            history = draw_history(chance, plan, 8, 8)
            many = chance.randint(0, len(history))
            # Each record carries the list of its deeds along.
            carried = []
            for s, step in enumerate(history[:many]):
                for d, deed in enumerate(step):
                    if deed[0] == "add":
                        carried.append([(s, d)])
                    elif deed[0] == "drop":
                        carried.pop(deed[1])
                    else:
                        carried[deed[1]].append((s, d))
            told = roots(plan, history, many)
            self.assertEqual(told, carried)
            book = books_of(plan, history)[many]
            self.assertEqual([self.made(history, deeds) for deeds in told], book)
            fixed_often += any(len(deeds) > 2 for deeds in told)
        self.assertGreater(fixed_often, 50)

    def made(self, history, deeds):
        """The record that its deeds make: that of the first, its things fixed by the later ones."""
        record = list(history[deeds[0][0]][deeds[0][1]][1])
        for s, d in deeds[1:]:
            word, number, place, thing = history[s][d]
            record[place] = thing
        return tuple(record)

    def test_greatest_histories(self):
        chance = random.Random(352)
        book, history = [], []
        for s in range(12):
            step = []
            for _ in range(10):
                deed = ADD if len(book) < 60 and s < 7 else ("fix", chance.randrange(60), 3, chance.randint(0, 9))
                step.append(deed)
                book = do(book, deed)
            history.append(step)
        self.assertIsNone(history_wrong(PLAN, history))
        self.assertEqual(books_of(PLAN, history)[-1], book)
        figure = ((None, None, None), "measure")
        changes = split(PLAN, history, figure, 0, 12)
        self.assertEqual(sum(change for s, d, change in changes), figures(PLAN, history, figure)[12])


class Refusals(unittest.TestCase):
    def test_no_plan(self):
        for thing in ANYTHING:
            for history in (HISTORY, None):
                self.assertEqual(refused_with(books_of, thing, history), NoPlan, thing)
                self.assertEqual(refused_with(figures, thing, history, None), NoPlan, thing)
                self.assertEqual(refused_with(split, thing, history, None, None, None), NoPlan, thing)
                self.assertEqual(refused_with(roots, thing, history, None), NoPlan, thing)

    def test_no_history(self):
        for thing in (*NO_HISTORIES, [[("drop", 0)]], [[ADD], [("add", None)]]):
            for behind in (FIGURE, None):
                self.assertEqual(refused_with(books_of, PLAN, thing), NoHistory, thing)
                self.assertEqual(refused_with(figures, PLAN, thing, behind), NoHistory, thing)
                self.assertEqual(refused_with(split, PLAN, thing, behind, 0, None), NoHistory, thing)
                self.assertEqual(refused_with(roots, PLAN, thing, behind), NoHistory, thing)

    def test_no_figure(self):
        for thing in NO_FIGURES:
            self.assertEqual(refused_with(figures, PLAN, HISTORY, thing), NoFigure, thing)
            for one, other in ((0, 1), (None, None), (2, 1)):
                self.assertEqual(refused_with(split, PLAN, HISTORY, thing, one, other), NoFigure, thing)

    def test_no_step(self):
        no_steps = [thing for thing in ANYTHING if thing.__class__ != int]
        for thing in (*no_steps, -1, 5, 10 ** 29, True, False, "1", (1,), [1]):
            self.assertEqual(refused_with(split, PLAN, HISTORY, FIGURE, thing, 4), NoStep, thing)
            self.assertEqual(refused_with(split, PLAN, HISTORY, FIGURE, 0, thing), NoStep, thing)
            self.assertEqual(refused_with(split, PLAN, HISTORY, FIGURE, thing, thing), NoStep, thing)
            self.assertEqual(refused_with(roots, PLAN, HISTORY, thing), NoStep, thing)
        self.assertEqual(refused_with(split, PLAN, HISTORY, FIGURE, 2, 1), NoStep)
        self.assertEqual(refused_with(split, PLAN, HISTORY, FIGURE, 4, 0), NoStep)
        self.assertIsNone(refused_with(split, PLAN, HISTORY, FIGURE, 4, 4))
        self.assertEqual(refused_with(roots, PLAN, [], 1), NoStep)


if __name__ == "__main__":
    unittest.main()
