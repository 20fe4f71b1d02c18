"""A second house of the tests' own, which changes copies; and deeds drawn by chance, right and wrong ones."""

import copy
import itertools

from countveil.patterns import pattern
from countveil.releases import all_fixed
from tests.drawing import draw_costs, draw_plan, draw_record, draw_rules, full_codes, is_right
from tests.samples import ANYTHING

WORDS = {"begin": 3, "end": 1, "take": 2, "drop": 2, "fix": 4, "mend": 3, "publish": 4}
TITLES = ("a", "bb", "abcdefgh", "z", "q", "ff", "seven", "eight")
LETTERS = set("abcdefghijklmnopqrstuvwxyz")


class Refused(Exception):
    """A refusal: its word, and the value that it bears."""

    def __init__(self, word, value=None):
        Exception.__init__(self, word)
        self.word, self.value = word, value


def need(right, word, value=None):
    if not right:
        raise Refused(word, value)


def is_number(thing, least, most):
    return thing.__class__ == int and least <= thing <= most


def is_text(thing, most):
    return thing.__class__ == str and 1 <= len(thing) <= most and set(thing) <= LETTERS


def is_plan(thing):
    if thing.__class__ != tuple or not 1 <= len(thing) <= 4:
        return False
    for sort in thing:
        if sort.__class__ != tuple or len(sort) != 2 or not is_text(sort[0], 8) or sort[1].__class__ != tuple:
            return False
        if not 2 <= len(sort[1]) <= 6 or not all(is_text(code, 4) for code in sort[1]) or len(set(sort[1])) < len(sort[1]):
            return False
    return len({name for name, codes in thing}) == len(thing)


def are_rules(plan, thing):
    if thing.__class__ != list or len(thing) > 20:
        return False
    for rule in thing:
        if rule.__class__ != tuple or len(rule) != len(plan) or not any(codes is not None for codes in rule):
            return False
        for codes, (name, known) in zip(rule, plan):
            if codes is not None and (codes.__class__ != tuple or not codes or any(code not in known for code in codes)):
                return False
            if codes is not None and len(set(codes)) < len(codes):
                return False
    return True


def is_record(plan, thing):
    if thing.__class__ != tuple or len(thing) != len(plan) + 1 or not is_number(thing[-1], 0, 1000000):
        return False
    return all(answer is None or answer in codes for answer, (name, codes) in zip(thing, plan))


def is_clean(survey, record):
    return None not in record and is_right(survey["rules"], record[:-1])


def second_mend(survey, costs, record):
    """The first right full record of the least cost."""
    rights = [codes for codes in full_codes(survey["plan"]) if is_right(survey["rules"], codes)]
    need(rights, "NoRight")
    cost = {codes: sum(cost for cost, one, own in zip(costs, codes, record) if one != own) for codes in rights}
    return (*min(rights, key=lambda codes: cost[codes]), record[-1])


class SecondHouse:
    """What a house should tell."""

    def __init__(self):
        self.surveys, self.done, self.undone, self.calls = {}, [], [], []

    def survey(self, title):
        need(title.__class__ == str and title in self.surveys, "NoTitle")
        return self.surveys[title]

    def book(self, title):
        return self.survey(title)["books"][-1]

    def new_book(self, title, book):
        survey = self.survey(title)
        survey["books"].append(book)
        survey["out"], survey["barred"] = [], []

    def begin(self, title, plan, rules):
        need(is_text(title, 8) and title not in self.surveys, "NoTitle")
        need(is_plan(plan), "NoPlan")
        need(are_rules(plan, rules), "NoRules")
        need(len(full_codes(plan)) <= 36, "TooGreat")
        need(len(self.surveys) < 6, "TooMany")
        self.surveys[title] = {"plan": plan, "rules": rules, "books": [[]], "out": [], "barred": [], "shown": []}

    def end(self, title):
        self.survey(title)
        del self.surveys[title]

    def take(self, title, record):
        survey = self.survey(title)
        need(is_record(survey["plan"], record), "NoRecord")
        need(len(self.book(title)) < 60, "TooMany")
        self.new_book(title, self.book(title) + [record])
        return len(self.book(title)) - 1

    def need_number(self, title, number):
        need(is_number(number, 0, len(self.book(title)) - 1), "NoNumber")

    def drop(self, title, number):
        self.need_number(title, number)
        book = list(self.book(title))
        del book[number]
        self.new_book(title, book)

    def put(self, title, number, record):
        book = list(self.book(title))
        book[number] = record
        self.new_book(title, book)

    def fix(self, title, number, place, thing):
        survey = self.survey(title)
        self.need_number(title, number)
        need(is_number(place, 0, len(survey["plan"])), "NoPlace")
        record = list(self.book(title)[number])
        record[place] = thing
        need(is_record(survey["plan"], tuple(record)), "NoRecord")
        self.put(title, number, tuple(record))

    def mend(self, title, number, costs):
        survey = self.survey(title)
        self.need_number(title, number)
        right = costs.__class__ == tuple and len(costs) == len(survey["plan"])
        need(right and all(is_number(cost, 1, 1000) for cost in costs), "NoCosts")
        self.put(title, number, second_mend(survey, costs, self.book(title)[number]))

    def publish(self, title, one, other, least):
        survey, book = self.survey(title), self.book(title)
        plan = survey["plan"]
        need(is_number(one, 0, len(plan) - 1) and is_number(other, 0, len(plan) - 1) and one != other, "NoSort")
        need(is_number(least, 1, 10), "NoLeast")
        for number, record in enumerate(book):
            need(is_clean(survey, record), "NotClean", number)
        ones, others = plan[one][1], plan[other][1]
        cells = [[sum((record[one], record[other]) == (a, b) for record in book) for b in others] for a in ones]
        barred = [(i, k) for i in range(len(ones)) for k in range(len(others)) if 0 < cells[i][k] < least]
        need(len(barred) <= 8, "TooMany")
        hidden = pattern(cells, [(i, k, cells[i][k], least - cells[i][k]) for i, k in barred])
        need(hidden is not None, "NoPattern")
        fine = list(itertools.product(*[codes for name, codes in plan]))

        def places(**asked):
            return [c for c, codes in enumerate(fine) if all(codes[int(s[1:])] == code for s, code in asked.items())]

        cell = {(i, k): places(**{f"s{one}": ones[i], f"s{other}": others[k]})
                for i in range(len(ones)) for k in range(len(others))}
        rows = [(cell[i, k], cells[i][k]) for i, k in cell if (i, k) not in hidden]
        rows += [(places(**{f"s{one}": code}), sum(cells[i])) for i, code in enumerate(ones)]
        rows += [(places(**{f"s{other}": code}), sum(row[k] for row in cells)) for k, code in enumerate(others)]
        survey["out"] = survey["out"] + rows
        need(len(survey["out"]) <= 40, "TooMany")
        survey["barred"] = survey["barred"] + [cell[place] for place in barred]
        for figure in survey["barred"]:
            need(not all_fixed(len(fine), survey["out"], [figure]), "Fixed", figure)
        shown = [[None if (i, k) in hidden else cells[i][k] for k in range(len(others))] for i in range(len(ones))]
        told = (one, other, shown, [sum(row) for row in cells], [sum(column) for column in zip(*cells)])
        survey["shown"].append((len(survey["books"]) - 1, told))
        return told

    def tried(self, word, things):
        """Do a deed on a copy, that is kept where it isn't refused."""
        ahead, self.surveys = self.surveys, copy.deepcopy(self.surveys)
        try:
            told = getattr(self, word)(*copy.deepcopy(things))
        except Refused:
            self.surveys = ahead
            self.calls.append((word, "refused"))
            raise
        self.calls.append((word, "done"))
        return told

    def do(self, word, things):
        ahead = self.surveys
        told = self.tried(word, things)
        self.done.append(ahead)
        self.undone = []
        return told

    def back(self):
        self.calls.append(("back", "done" if self.done else "refused"))
        need(self.done, "NoBack")
        self.undone.append(self.surveys)
        self.surveys = self.done.pop()

    def again(self):
        self.calls.append(("again", "done" if self.undone else "refused"))
        need(self.undone, "NoBack")
        self.done.append(self.surveys)
        self.surveys = self.undone.pop()

    def deeds(self, rows, on):
        self.calls.append(("deeds", "begun"))
        ahead, told, refused = self.surveys, [], None
        for at, row in enumerate(rows):
            try:
                right = row.__class__ == tuple and row and row[0].__class__ == str and WORDS.get(row[0]) == len(row) - 1
                need(right, "NoDeed", at)
                told.append(self.tried(row[0], row[1:]))
            except Refused as why:
                refused = why
                break
        if refused and not on:
            self.surveys = ahead
        elif told:
            self.done.append(ahead)
            self.undone = []
        self.calls.append(("deeds", "refused" if refused else "done"))
        if refused:
            raise refused
        return told

    def view(self, title):
        """What is told of a survey."""
        survey, book = self.survey(title), self.book(title)
        return {
            "plan_of": survey["plan"], "rules_of": survey["rules"], "book_of": book, "out": survey["out"],
            "faults": [n for n, record in enumerate(book) if not is_clean(survey, record)],
            "published": survey["shown"], "vintage": len(survey["books"]) - 1,
        }


def draw_small_plan(chance):
    """A plan of at most 36 fine cells, or, seldom, of more."""
    while True:
        plan = draw_plan(chance, 3, chance.choice((3, 3, 6)))
        if len(full_codes(plan)) <= 36 or chance.random() < 0.1:
            return plan


def draw_title(chance, house, there=0.95):
    """A title of a survey that is there, or, seldom, another thing."""
    if house.surveys and chance.random() < there:
        return chance.choice(sorted(house.surveys))
    return chance.choice((*TITLES, "", "Ab", "abcdefghi", "a b", *ANYTHING[:-2]))


def draw_clean(chance, survey):
    """A record of a survey, most often one that is right and whole."""
    rights = [codes for codes in full_codes(survey["plan"]) if is_right(survey["rules"], codes)]
    if rights and chance.random() < 0.9:
        return (*chance.choice(rights[:chance.choice((2, 6, 36))]), chance.randint(0, 9))
    return draw_record(chance, survey["plan"])


def draw_fix(chance, survey, number):
    """What stands behind the title where a record is fixed."""
    place = chance.randrange(len(survey["plan"]) + 1)
    if place == len(survey["plan"]):
        return (number, place, chance.choice((0, 5, 10 ** 6, chance.randint(0, 9), -1, None)))
    return (number, place, chance.choice((None, *survey["plan"][place][1] * 3, "x")))


def draw_deed(chance, house, words):
    """A deed of one of these words for the house, most often a right one."""
    word = chance.choice(words)
    if word == "begin":
        plan = draw_small_plan(chance)
        return ("begin", chance.choice((*TITLES, "", 1)), plan, draw_rules(chance, plan, chance.choice((0, 1, 3))))
    title = draw_title(chance, house)
    survey = house.surveys.get(title) if isinstance(title, str) else None
    if survey is None:
        return (word, title, *[chance.choice(ANYTHING) for _ in range(WORDS[word] - 1)])
    many = len(survey["books"][-1])
    number = chance.choice((*range(many), *range(many), many, -1, True, None))
    if word == "end":
        deed = (word, title)
    elif word == "take":
        deed = (word, title, draw_clean(chance, survey))
    elif word == "drop":
        deed = (word, title, number)
    elif word == "fix":
        deed = (word, title, *draw_fix(chance, survey, number))
    elif word == "mend":
        deed = (word, title, number, draw_costs(chance, survey["plan"]))
    else:
        sorts = len(survey["plan"])
        deed = (word, title, chance.randint(0, sorts - 1), chance.randint(0, sorts - 1), chance.choice((1, 2, 3, 4, 10)))
    if chance.random() < 0.04:
        deed = list(deed)
        deed[chance.randrange(1, len(deed))] = chance.choice(ANYTHING)
    return tuple(deed)
