"""Points 47 to 49: a desk, at which a house is told its deeds, and asked, by texts."""

import random
import re
import unittest

from countveil.desk import Desk
from countveil.errors import (
    CountError, Fixed, NoBack, NoCosts, NoFigure, NoLeast, NoLine, NoNumber, NoPattern, NoPlace, NoPlan, NoRecord, NoRight, NoRules,
    NoSort, NotClean, NoText, NoTitle, TooGreat, TooMany,
)
from countveil.houses import House
from countveil.papertexts import paper_text, read_paper
from countveil.releases import fixed
from tests.drawing import full_codes, plan_of
from tests.samples import refusal
from tests.second_house import Refused, SecondHouse, draw_deed
from tests.test_houses import view_of
from tests.test_papertexts import second_at

PLAN = "((sex (f m)) (age (old mid y)))"
# What stands behind each word: the titles and numbers, and whether a paper does.
FORMS = {
    "begin": ("t", True), "end": ("t", False), "drop": ("tn", False), "fix": ("tnn", True), "mend": ("tn", True), "back": ("", False),
    "again": ("", False), "take": ("t", True), "publish": ("tnnn", False), "plan": ("t", False), "rules": ("t", False),
    "book": ("t", False), "faults": ("t", False), "out": ("t", False), "published": ("t", False), "revised": ("t", True),
    "log": ("", False), "titles": ("", False), "vintage": ("t", False), "fixed": ("t", True),
}
ASKED = {"plan": "plan_of", "rules": "rules_of", "book": "book_of"}
SIGNS = "ab 019-\"^()[]{}:\n"


def desk_with(*lines):
    """A desk to which these lines were said."""
    desk = Desk()
    for line in lines:
        desk.say(line)
    return desk


def begun(*lines):
    return desk_with(f"begin a ({PLAN} [])", *lines)


def parsed(text, titles):
    """The refusal due ahead of the house, or the word and the things of a line; apart from the program."""
    word = text.split(" ")[0]
    if "\n" in text or word not in FORMS:
        return NoLine, None
    form, has_paper = FORMS[word]
    found = re.fullmatch(word + " ([^ ]*)" * len(form) + (" (.+)" if has_paper else ""), text)
    if not found:
        return NoLine, None
    things = []
    for kind, part in zip(form, found.groups()):
        if kind == "t":
            is_new = re.fullmatch("[a-z]{1,8}", part) and part not in titles
            if not (is_new if word == "begin" else part in titles):
                return NoTitle, None
            things.append(part)
        elif not re.fullmatch("0|-?[1-9][0-9]{0,29}", part):
            return NoNumber, None
        else:
            things.append(int(part))
    if has_paper:
        at = second_at(found.groups()[-1])
        if at is not None:
            return NoText, at
        things.append(read_paper(found.groups()[-1]))
    if word == "begin":
        if not isinstance(things[1], tuple) or len(things[1]) != 2:
            return NoLine, None
        things[1:] = things[1]
    return word, things


def answer_of(house, word, things):
    """What a desk with this house should answer."""
    if word == "titles":
        return " ".join(house.titles())
    if word == "fixed":
        return paper_text(fixed(len(full_codes(house.plan_of(things[0]))), house.out(things[0]), things[1]))
    told = getattr(house, ASKED.get(word, word))(*things)
    if word == "vintage" or word == "take":
        return str(told)
    if word in ("begin", "end", "drop", "fix", "mend", "back", "again"):
        return "ok"
    return paper_text(told)


def outcome(call, *things):
    """A tuple of None and what is told, or of the name of the refusal and its message."""
    try:
        return (None, call(*things))
    except CountError as refused:
        return (refused.__class__.__name__, str(refused))


def line_of(deed):
    """The line of a deed; whatever is too deep for a paper is none."""
    word, things = deed[0], list(deed[1:])
    if word == "begin":
        things[1:] = [tuple(things[1:])]
    if FORMS[word][1]:
        things[-1] = outcome(paper_text, things[-1])[1]
    return " ".join([word, *map(str, things)])


class Rows(unittest.TestCase):
    def test_some(self):
        desk = Desk()
        for line, answer in (
            ("titles", ""), ("log", "[]"), (f"begin a ({PLAN} [((f) (old))])", "ok"), ("titles", "a"), ("plan a", PLAN),
            ("rules a", "[((f) (old))]"), ("take a (f old 7)", "0"), ("take a (m none 3)", "1"), ("book a", "[(f old 7) (m none 3)]"),
            ("faults a", "[0 1]"), ("vintage a", "2"), ("mend a 0 (1 1)", "ok"), ("fix a 1 1 y", "ok"), ("fix a 1 2 12", "ok"),
            ("book a", "[(f mid 7) (m y 12)]"), ("publish a 0 1 1", "(0 1 [[0 1 0] [0 0 1]] [1 1] [0 1 1])"),
            ("out a", "[([0] 0) ([1] 1) ([2] 0) ([3] 0) ([4] 0) ([5] 1) ([0 1 2] 1) ([3 4 5] 1) ([0 3] 0) ([1 4] 1) ([2 5] 1)]"),
            ("published a", "[(5 (0 1 [[0 1 0] [0 0 1]] [1 1] [0 1 1]))]"), ("revised a ((none y) measure)", "[0 0 0 0 3 12]"),
            ("fixed a [1]", "(fixed (1 1) [(0 1) (1 1) (0 1) (0 1) (0 1) (0 1) (0 1) (0 1) (0 1) (0 1) (0 1)])"), ("back", "ok"),
            ("out a", "[]"), ("fixed a [1]", "(free [(0 1) (1 1) (0 1) (0 1) (0 1) (0 1)])"), ("again", "ok"), ("drop a 0", "ok"),
            ("vintage a", "6"), ("begin bb (((x (p q))) [])", "ok"), ("titles", "a bb"), ("end a", "ok"), ("titles", "bb"),
        ):
            self.assertEqual(desk.say(text=line), answer, line)
        words = "begin take take mend fix fix publish back again drop begin end"
        self.assertEqual(desk.say("log"), "[" + " ".join(f"({word} done)" for word in words.split()) + "]")

    def test_two_desks_apart(self):
        begun()
        self.assertEqual(Desk().say("titles"), "")

    def test_numbers(self):
        desk = begun("take a (f old 7)")
        for number in ("1", "-1", "9" * 30, "-" + "9" * 30, "10"):
            self.assertIsInstance(refusal(desk.say, f"drop a {number}"), NoNumber)
            self.assertEqual(desk.house.log()[-1], ("drop", "refused"))
        self.assertEqual(desk.say("drop a 0"), "ok")


class Refusals(unittest.TestCase):
    def look(self, desk, line, kind, at=None):
        ahead, log = view_of(desk.house), desk.house.log()
        refused = refusal(desk.say, line)
        self.assertEqual(refused.__class__, kind, line)
        if at is not None:
            self.assertEqual((repr(refused.row), repr(refused.at)), ("0", str(at)), line)
        self.assertEqual((view_of(desk.house), desk.house.log()), (ahead, log), line)

    def test_no_line(self):
        desk = begun("take a (f old 7)")
        for line in (
            "", " ", "  ", "x", "Back", "back ", " back", "back back", "again a", "titles a", "titles ", "log ", "log a", "end", "end a b",
            "end a ", "end  a", "plan", "plan a ", "plan a a", "rules", "book", "faults", "out", "out a a", "published", "vintage",
            "vintage a 1", "begin", "begin b", "begin b ", "begin  ", "begin", "take", "take ", "take a", "take a ", "take  ", "drop", "drop a",
            "drop a 0 0", "drop a 0 ", "fix", "fix a", "fix a 0", "fix a 0 0", "fix a 0 0 ", "fix a 0  ", "mend a 0", "mend a 0 ", "mend a",
            "publish a 0 1", "publish a 0 1 1 1", "publish a 0 1 1 ", "revised", "revised a", "revised a ", "fixed", "fixed a", "fixed a ",
            "deeds []", "len", "say back", "back\n", "\nback", "end a\n", "take a (f old 7)\n", "titles\n", "publish zz 0 1 1\n", "\n",
            "plan_of a", "end\na", "drop x y z", "take\n", "begin b (\n)",
        ):
            self.look(desk, line, NoLine)

    def test_no_title(self):
        desk = begun("take a (f old 7)")
        for title in ("b", "", "A", "aa", "abcdefghi", "1", "-", '"a"', "(a)", "a:"):
            for line in (
                "end {}", "plan {}", "rules {}", "book {}", "faults {}", "out {}", "published {}", "vintage {}", "take {} (", "take {}  ",
                "drop {} x", "drop {} 0", "fix {} x y (", "fix {} 0 0 f", "mend {} x (", "mend {} 0 (1 1)", "publish {} x y z",
                "publish {} 0 1 1", "revised {} (", "revised {} ((none none) count)", "fixed {} (", "fixed {} [0]",
            ):
                self.look(desk, line.format(title), NoTitle)
        for title in ("a", "", "A", "abcdefghi", "1", "-", '"b"', "b:", "b1"):
            for paper in ("(", "7", f"({PLAN} [])", " "):
                self.look(desk, f"begin {title} {paper}", NoTitle)

    def test_no_number(self):
        desk = begun("take a (f old 7)")
        for number in ("", "x", "-", "00", "01", "-0", "-01", "+1", "1x", "--1", "1.0", "0x1", "9" * 31, "-" + "9" * 31, "1_0", "none", '"1"'):
            for line in ("drop a {}", "fix a {} 0 (", "fix a {} x (", "fix a 0 {} (", "mend a {} (", "publish a {} 0 0", "publish a 0 {} x",
                         "publish a 0 1 {}", "publish a {} {} {}"):
                self.look(desk, line.replace("{}", number), NoNumber)

    def test_a_paper_that_is_none(self):
        desk = begun("take a (f old 7)")
        for paper, at in (
            ("(", 1), (" ", 0), ("  ", 0), (" f", 0), ("f ", 1), ("f f", 1), ('"f"', 0), ("(f  old 7)", 3), ("()()", 2), ("9" * 61, 60),
            ("[" * 61, 60), ("{b:1 a:2}", 5), ("-0", 1), ('"^x"', 2), ("none:", 4),
        ):
            for line in ("begin b {}", "take a {}", "fix a 5 9 {}", "mend a 5 {}", "revised a {}", "fixed a {}"):
                self.look(desk, line.replace("{}", paper), NoText, at)

    def test_begin_of_no_tuple_of_two(self):
        desk = begun()
        for paper in ("none", "7", "()", "(1)", "(1 2 3)", f"[{PLAN} []]", f"{PLAN[:-1]} (x (a b)))", "{a:1 b:2}", "ab", '"a b"'):
            self.look(desk, f"begin b {paper}", NoLine)

    def test_as_the_house_refuses(self):
        desk = begun("take a (f old 7)", "take a (f none 1)")
        for line, kind in (
            ("begin b (() ())", NoPlan), ("begin b (none none)", NoPlan), (f"begin b ({PLAN} ())", NoRules), (f"begin b ({PLAN} [()])", NoRules),
            ("begin b (((x (a b c d e f)) (y (a b c d e f)) (z (a b))) [])", TooGreat), ("take a 7", NoRecord), ("take a [f old 7]", NoRecord),
            ("take a (f x 7)", NoRecord), ("drop a 2", NoNumber), ("drop a -1", NoNumber), ("fix a 2 0 f", NoNumber), ("fix a 0 3 f", NoPlace),
            ("fix a 0 -1 f", NoPlace), ("fix a 0 0 old", NoRecord), ("fix a 0 2 yes", NoRecord), ("mend a 2 (1 1)", NoNumber),
            ("mend a 0 (1)", NoCosts), ("mend a 0 [1 1]", NoCosts), ("publish a 0 0 1", NoSort), ("publish a 0 2 1", NoSort),
            ("publish a 0 1 0", NoLeast), ("publish a 0 1 11", NoLeast), ("publish a 0 1 1", NotClean), ("again", NoBack),
        ):
            ahead, log = view_of(desk.house), desk.house.log()
            self.assertEqual(refusal(desk.say, line).__class__, kind, line)
            self.assertEqual(view_of(desk.house), ahead, line)
            self.assertEqual(desk.house.log(), [*log, (line.split(" ")[0], "refused")], line)
        for line in ("revised a 7", "revised a ((none) count)", "revised a ((none none) x)", "fixed a []", "fixed a [6]", "fixed a (0)", "fixed a [1 0]"):
            self.look(desk, line, NoFigure)
        self.assertIsInstance(refusal(Desk().say, "back"), NoBack)

    def test_more_that_the_house_refuses(self):
        desk = desk_with(*[f"begin {title} ({PLAN} [((f) none) ((m) none)])" for title in ("a", "b", "c", "d", "e", "f")], "take a (f y 1)")
        self.assertIsInstance(refusal(desk.say, f"begin g ({PLAN} [])"), TooMany)
        self.assertIsInstance(refusal(desk.say, "mend a 0 (1 1)"), NoRight)
        desk = begun(*["take a (f old 1)"] * 60)
        self.assertIsInstance(refusal(desk.say, "take a (f old 1)"), TooMany)
        desk = begun("take a (f old 1)")
        self.assertIsInstance(refusal(desk.say, "publish a 0 1 2"), NoPattern)
        desk = begun(*["take a (f old 1)"] * 5, "take a (f mid 1)", *["take a (m old 1)"] * 5, *["take a (m mid 1)"] * 2, "publish a 0 1 3")
        refused = refusal(desk.say, "publish a 0 1 1")
        self.assertEqual((refused.__class__, refused.places), (Fixed, [1]))


class BesideAHouse(unittest.TestCase):
    def both(self, desk, house, line):
        """Say a line, and ask or tell the house the same; tells the name of a refusal, or None."""
        word, things = parsed(line, house.titles())
        if isinstance(word, str):
            expected = outcome(answer_of, house, word, things)
        else:
            expected = (word.__name__, str(NoText(0, things)) if word == NoText else None)
        told = outcome(desk.say, line)
        self.assertEqual(told[0], expected[0], line)
        if expected[1] is not None:
            self.assertEqual(told[1], expected[1], line)
        self.assertEqual(house.log(), desk.house.log(), line)
        return expected[0]

    def draw_line(self, chance, second):
        asked = (*ASKED, "faults", "out", "published", "vintage", "titles", "log", "revised", "fixed")
        word = chance.choice((*["deed"] * 16, "back", "again", *asked))
        if word == "deed":
            words = ["begin", "end", *["take"] * 8, "drop", "fix", "mend", *["publish"] * 4]
            deed = draw_deed(chance, second, words if len(second.surveys) > 1 else ["begin", "take"])
            return deed[0], deed, line_of(deed) if isinstance(deed[1], str) else f"{deed[0]} {chance.choice('A1 ')}"
        title = chance.choice(sorted(second.surveys) or ["a"])
        if word in ("back", "again", "titles", "log"):
            return word, None, word
        if word == "revised":
            plan = second.surveys[title]["plan"] if title in second.surveys else plan_of(2)
            return word, None, f"revised {title} {paper_text(((None,) * len(plan), 'count'))}"
        if word == "fixed":
            return word, None, f"fixed {title} {paper_text(sorted(chance.sample(range(8), chance.randint(0, 3))))}"
        return word, None, f"{word} {title}"

    def test_each_row(self):
        seen = {}
        for seed in range(12):
            chance = random.Random(seed)
            desk, house, second = Desk(), House(), SecondHouse()
            for _ in range(100):
                word, deed, line = self.draw_line(chance, second)
                if chance.random() < 0.15:
                    at = chance.randint(0, len(line))
                    line = line[:at] + chance.choice(("", *SIGNS)) + line[at + chance.randint(0, 1):]
                ahead = len(house.log())
                refused = self.both(desk, house, line)
                seen[word, refused] = seen.get((word, refused), 0) + 1
                self.assertEqual(view_of(house), view_of(desk.house))
                if house.log()[ahead:]:
                    self.follow(second, parsed_again(line))
        for word in (*ASKED, "begin", "take", "publish", "back", "revised", "fixed", "out", "log", "titles", "vintage"):
            self.assertGreater(seen.get((word, None), 0), 0, (word, seen))
        for refused in ("NoLine", "NoTitle", "NoNumber", "NoText"):
            self.assertGreater(sum(many for (word, kind), many in seen.items() if kind == refused), 5, (refused, seen))

    def follow(self, second, line):
        """Let the second house, by which lines are drawn, do the same."""
        word, things = line
        try:
            if word in ("back", "again"):
                getattr(second, word)()
            else:
                second.do(word, things)
        except Refused:
            pass


def parsed_again(line):
    """The word and the things of a line that came to the house."""
    word = line.split(" ")[0]
    form, has_paper = FORMS[word]
    parts = line.split(" ", len(form) + 1)[1:]
    things = [int(part) if kind == "n" else part for kind, part in zip(form, parts)]
    things += [read_paper(parts[-1])] if has_paper else []
    if word == "begin":
        things[1:] = things[1]
    return word, tuple(things)


if __name__ == "__main__":
    unittest.main()
