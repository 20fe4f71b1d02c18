"""Point 46: things written as texts, and read again."""

import itertools
import random
import re
import time
import unittest

from countveil.errors import NoNumber, NoText, TooDeep, TooGreat
from countveil.papertexts import MOST_DEEP, paper_text, read_paper
from tests.samples import ANYTHING, nested, refusal, refused_with

SIGNS = "abnoesy 01-9\"^()[]{}:~A\n"
TEXTS = (
    "", "a", "abc", "none", "yes", "no", "nones", "nine", "A", "a b", "1", "-", "a1", "~", '"', "^", "\n", '^"', "^n", "n^", "\n\n",
    ":", "{", "()", " ", " a", "a ", "Zz", "zz",
)
NO_DEEPS = (*[thing for thing in ANYTHING if thing.__class__ != int], -1, 61, 10 ** 29, True, False, "1", (1,))


def draw_text(chance):
    if chance.random() < 0.6:
        return chance.choice(TEXTS)
    return "".join(chance.choice(SIGNS) for _ in range(chance.randint(0, 6)))


def draw_plain(chance):
    kind = chance.randrange(6)
    if kind < 2:
        return draw_text(chance)
    if kind == 2:
        return chance.choice((None, True, False))
    most = chance.choice((1, 20, 10 ** 60 - 1))
    return chance.randint(-most, most)


def draw_thing(chance, deep):
    """A thing drawn by chance in which at most so many lie within one another."""
    kind = chance.choice(("plain", tuple, list, dict)) if deep else "plain"
    if kind == "plain":
        return draw_plain(chance)
    inner = [draw_thing(chance, deep - 1) for _ in range(chance.randint(0, 3))]
    if kind == dict:
        return {draw_text(chance): each for each in inner}
    return kind(inner)


def bent_text(chance, text):
    """The text with a sign put in, taken out or exchanged."""
    at = chance.randint(0, len(text))
    more = chance.choice(("", chance.choice(SIGNS), chance.choice(SIGNS)))
    return text[:at] + more + text[at + chance.randint(0, 1):]


def alike(one, other):
    """Whether two things are the same, kinds too, whatever the order in which keys were put in."""
    if one.__class__ != other.__class__:
        return False
    if isinstance(one, dict):
        return sorted(one) == sorted(other) and all(alike(one[key], other[key]) for key in one)
    if isinstance(one, (tuple, list)):
        return len(one) == len(other) and all(map(alike, one, other))
    return one == other


def second_text(thing):
    """How a thing is written, apart from the program."""
    if thing is None or thing is True or thing is False:
        return {None: "none", True: "yes", False: "no"}[thing]
    if isinstance(thing, int):
        return repr(thing)
    if isinstance(thing, str):
        if re.fullmatch("[a-z]+", thing) and not re.fullmatch("none|yes|no", thing):
            return thing
        return '"' + re.sub(r'(["^])', r"^\1", thing).replace("\n", "^n") + '"'
    if isinstance(thing, dict):
        return "{" + " ".join(second_text(key) + ":" + second_text(thing[key]) for key in sorted(thing)) + "}"
    left, right = "()" if isinstance(thing, tuple) else "[]"
    return left + " ".join(map(second_text, thing)) + right


class Scanner:
    """Where a text breaks off, by a row of states and a pile of open signs, apart from the program."""

    def __init__(self, text, deep):
        self.text, self.deep, self.pile, self.keys, self.at = text, deep, [], [], 0

    def broken(self):
        """How many signs hold; None where the whole text is right."""
        state = "thing"
        while state != "end":
            state, broken = self.step(state)
            if broken is not None:
                return broken
        return None if self.at == len(self.text) else self.at

    def step(self, state):
        sign = self.text[self.at:self.at + 1]
        if state in ("first thing", "first key", "behind") and sign and sign == self.pile[-1]:
            self.at += 1
            self.pile.pop()
            self.keys.pop()
            return ("behind" if self.pile else "end"), None
        if state == "behind":
            if sign != " ":
                return None, self.at
            self.at += 1
            return ("key" if self.pile[-1] == "}" else "thing"), None
        if state.endswith("key"):
            return self.key(sign)
        return self.thing(sign)

    def thing(self, sign):
        behind = "behind" if self.pile else "end"
        if sign and sign in "([{":
            if len(self.pile) == self.deep:
                return None, self.at
            self.pile.append({"(": ")", "[": "]", "{": "}"}[sign])
            self.keys.append(None)
            self.at += 1
            return ("first key" if sign == "{" else "first thing"), None
        if sign == '"':
            broken, _ = self.quoted()
            return behind, broken
        found = re.compile("[a-z]+|0|-?[1-9][0-9]{0,59}").match(self.text, self.at)
        if not found:
            return None, self.at + (sign == "-")
        self.at = found.end()
        if found[0][-1].isdigit() and found[0] != "0" and self.text[self.at:self.at + 1].isdigit():
            return None, self.at
        return behind, None

    def quoted(self):
        begin = self.at
        found = re.compile('"((?:[^"^\n]|\\^["^n])*)(\\^?)').match(self.text, begin)
        self.at = found.end()
        if found[2] or self.text[self.at:self.at + 1] != '"':
            return self.at, None
        self.at += 1
        meant = re.sub(r"\^(.)", lambda pair: "\n" if pair[1] == "n" else pair[1], found[1])
        if second_text(meant) == meant:
            return begin, None
        return None, meant

    def key(self, sign):
        begin = self.at
        if sign == '"':
            broken, meant = self.quoted()
            if broken is not None:
                return None, broken
            bare = False
        else:
            meant = re.compile("[a-z]*").match(self.text, begin)[0]
            self.at += len(meant)
            bare = True
        if (meant or not bare) and self.keys[-1] is not None and meant <= self.keys[-1]:
            return None, begin
        if (bare and meant in ("", "none", "yes", "no")) or self.text[self.at:self.at + 1] != ":":
            return None, self.at
        self.keys[-1] = meant
        self.at += 1
        return "thing", None


def second_at(text, deep=60):
    """How many signs of a text hold; None where it is right."""
    return Scanner(text, deep).broken()


def told_at(text, **deep):
    """Where read_paper says that the text breaks off; None where it doesn't."""
    refused = refusal(read_paper, text, **deep)
    if refused is None:
        return None
    assert refused.__class__ == NoText and repr(refused.row) == "0" and refused.at.__class__ == int
    return refused.at


class Written(unittest.TestCase):
    def test_the_number(self):
        self.assertEqual(MOST_DEEP, 60)

    def test_some(self):
        for thing, text in (
            (None, "none"), (True, "yes"), (False, "no"), (0, "0"), (1, "1"), (-17, "-17"), ("", '""'), ("abc", "abc"),
            ("none", '"none"'), ("yes", '"yes"'), ("no", '"no"'), ("nona", "nona"), ("Abc", '"Abc"'), ("a b", '"a b"'),
            ("7", '"7"'), ('"', '"^""'), ("^", '"^^"'), ("\n", '"^n"'), ("^n", '"^^n"'), ('a"b^c\nd', '"a^"b^^c^nd"'),
            ((), "()"), ([], "[]"), ({}, "{}"), ((1,), "(1)"), ([None, "a", -2], "[none a -2]"), ((1, (2, [])), "(1 (2 []))"),
            ({"a": 1, "b": 2}, "{a:1 b:2}"), ({"b": 2, "a": 1}, "{a:1 b:2}"), ({"": (), "no": {"a": []}}, '{"":() "no":{a:[]}}'),
            ({"aa": 1, "a": 2, "B": 3, "~": 4, "a b": 5}, '{"B":3 a:2 "a b":5 aa:1 "~":4}'),
            (("old", [("f", None, 7)], {"yes": True}), '(old [(f none 7)] {"yes":yes})'),
        ):
            self.assertEqual(paper_text(thing), text, thing)
            self.assertEqual(paper_text(thing=thing, deep=4), text, thing)
            self.assertTrue(alike(read_paper(text), thing), text)
            self.assertTrue(alike(read_paper(deep=4, text=text), thing), text)
            self.assertIsNone(second_at(text))

    def test_drawn_ones_and_back(self):
        chance = random.Random(460)
        for _ in range(6000):
            thing = draw_thing(chance, 4)
            text = paper_text(thing)
            self.assertEqual(text, second_text(thing))
            self.assertTrue(alike(read_paper(text), thing), text)

    def test_the_order_of_keys_means_nothing(self):
        keys = list(TEXTS)
        for seed in range(20):
            random.Random(seed).shuffle(keys)
            self.assertEqual(paper_text({key: 1 for key in keys}), paper_text({key: 1 for key in TEXTS}))

    def test_numbers_of_sixty_figures(self):
        for number in (10 ** 60 - 1, -(10 ** 60) + 1, 10 ** 59, -(10 ** 59)):
            self.assertEqual(paper_text(number), str(number))
            self.assertEqual(read_paper(str(number)), number)
        for number in (10 ** 60, -(10 ** 60), 10 ** 100 - 1, -(10 ** 100) + 1):
            for thing in (number, (number,), [1, [number]], {"a": number}):
                self.assertEqual(refused_with(paper_text, thing), TooGreat, thing)

    def test_long_things_soon(self):
        begin = time.perf_counter()
        thing = [("abc", n, None, "x y") for n in range(400)]
        text = paper_text(thing)
        self.assertTrue(alike(read_paper(text), thing))
        long = "^" * 4000
        self.assertEqual(read_paper(paper_text(long)), long)
        self.assertLess(time.perf_counter() - begin, 5)


class Deep(unittest.TestCase):
    def test_no_number(self):
        for deep in NO_DEEPS:
            for thing in ((), 10 ** 60, nested((), 70, lambda inner: [inner])):
                self.assertIsInstance(refusal(paper_text, thing, deep=deep), NoNumber, deep)
            for text in ("()", "", "x y", "((("):
                self.assertIsInstance(refusal(read_paper, text, deep=deep), NoNumber, deep)

    def test_at_and_beyond(self):
        wraps = (lambda inner: (inner,), lambda inner: [inner], lambda inner: {"a": inner}, lambda inner: (1, "a", inner))
        for wrap in wraps:
            for many in (0, 1, 2, 3, 59, 60):
                thing = nested(7, many, wrap)
                text = paper_text(thing, deep=many)
                self.assertEqual(paper_text(thing), text)
                self.assertTrue(alike(read_paper(text, deep=many), thing))
                self.assertTrue(alike(read_paper(text), thing))
                if many:
                    self.assertIsInstance(refusal(paper_text, thing, deep=many - 1), TooDeep)
                    self.assertEqual(told_at(text, deep=many - 1), second_at(text, many - 1))
            self.assertEqual(refused_with(paper_text, nested(7, 61, wrap)), TooDeep)
            self.assertEqual(refused_with(paper_text, nested(7, 99, wrap)), TooDeep)

    def test_empty_ones_count(self):
        for thing in ((), [], {}):
            self.assertIsInstance(refusal(paper_text, thing, deep=0), TooDeep)
            self.assertEqual(told_at(paper_text(thing), deep=0), 0)
            self.assertIsInstance(refusal(paper_text, [1, thing], deep=1), TooDeep)
            self.assertEqual(told_at(paper_text([1, thing]), deep=1), 3)
        for thing in (None, True, 5, "a", ""):
            self.assertEqual(read_paper(paper_text(thing, deep=0), deep=0), thing)

    def test_the_sign_that_opens_one_too_many(self):
        for sign in "([":
            self.assertEqual(told_at(sign * 61), 60)
            self.assertEqual(told_at(sign * 200), 60)
            self.assertEqual(told_at(sign * 60), 60)
            self.assertEqual(told_at(sign * 59), 59)
        self.assertEqual(told_at("{a:" * 61), 180)
        self.assertEqual(told_at("[1 (2) {a:3 b:[4 ()]}]", deep=2), 14)
        self.assertEqual(told_at("[1 (2) {a:3 b:[4 ()]}]", deep=3), 17)
        self.assertIsNone(told_at("[1 (2) {a:3 b:[4 ()]}]", deep=4))
        self.assertEqual(told_at("([x!", deep=1), 1)

    def test_too_deep_ahead_of_too_great(self):
        self.assertIsInstance(refusal(paper_text, [10 ** 60, [[]]], deep=2), TooDeep)
        self.assertIsInstance(refusal(paper_text, [10 ** 60, [[]]], deep=3), TooGreat)
        self.assertIsInstance(refusal(paper_text, {"a": 10 ** 60, "b": [[]]}, deep=1), TooDeep)


class Broken(unittest.TestCase):
    def test_where_no_text_goes_on_so(self):
        for text, at in (
            (" ", 0), (" a", 0), ("a ", 1), ("a b", 1), ("a1", 1), ("1a", 1), ("A", 0), ("aB", 1), (")", 0), ("]", 0), ("}", 0),
            (":", 0), ("~", 0), ("\n", 0), ("a\n", 1), ("01", 1), ("00", 1), ("-0", 1), ("-a", 1), ("--1", 1), ("1-", 1), ("+1", 0),
            ("()()", 2), ("()x", 2), ("( )", 1), ("(1 )", 3), ("(1  2)", 3), ("(1,2)", 2), ("(]", 1), ("[)", 1), ("{)", 1),
            ("(1]", 2), ("[1)", 2), ("{a:1)", 4), ("{a:1]", 4), ("{1:1}", 1), ("{:1}", 1), ("{ }", 1), ("{a}", 2), ("{a 1}", 2),
            ("{a: 1}", 3), ("{a:}", 3), ("{a:1 }", 5), ("{a:1  b:2}", 5), ("{a:1b:2}", 4), ("{(:1}", 1), ("{a:1:2}", 4),
            ('"\n"', 1), ('"a\nb"', 2), ('"^a"', 2), ('"^\n', 2), ('"A^b', 3), ('""a', 2), ('"A"B', 3), ('"A""', 3), ("a:1", 1),
            ("none1", 4), ("none none", 4), ("^", 0), ("(a^", 2), ('a"', 1), ("(12 x)y", 6), ("{A:1}", 1), ('{"A"}', 4), ('{"A" ', 4),
        ):
            self.assertEqual(told_at(text), at, text)
            self.assertEqual(second_at(text), at, text)

    def test_texts_that_only_end_too_soon(self):
        for text in (
            "", "-", '"', '"abc', '"abc ', '"^', '"A^', "(", "[", "{", "(1", "(1 ", "(a", "[[", "{a", "{a:", "{a:1", "{a:1 ",
            '{"', '{"a', '{"A"', '{"A":', "{none", "{no", "{yes", '{a:1 "', '{b:1 "a', '{b:1 "A^', "{a:1 b", "{a:1 aa", "{a:1 none",
            "{a:{b:(1 [", "(-",
        ):
            self.assertEqual(told_at(text), len(text), text)
            self.assertEqual(second_at(text), len(text), text)

    def test_a_text_that_would_be_written_without(self):
        for text, at in (
            ('"a"', 0), ('"abc"', 0), ('"abc"x', 0), ('("abc")', 1), ('[1 "nona"', 3), ('{a:"b"}', 3), ('{"a":1}', 1), ('{a:1 "b":2}', 5),
            ('{a:1 "b"', 5), ('("A" "b" "C")', 5),
        ):
            self.assertEqual(told_at(text), at, text)
            self.assertEqual(second_at(text), at, text)
        for text in ('"none"', '"yes"', '"no"', '""', '"A"', '"a b"', '"a^n"', '"^^"', '"1"'):
            self.assertIsNone(told_at(text), text)

    def test_a_key_that_is_not_greater(self):
        for text, at in (
            ("{a:1 a:2}", 5), ("{b:1 a:2}", 5), ("{b:1 a", 5), ("{b:1 b", 5), ("{b:1 aa!", 5), ("{b:1 a ", 5), ("{bb:1 b", 6), ("{bb:1 b:2}", 6),
            ("{z:1 none", 5), ("{z:1 none:2}", 5), ("{none", 5), ("{none:1}", 5), ("{a:1 none:1}", 9), ("{a:1 yes}", 8), ("{a:1 no ", 7),
            ("{a:1 nono:1}", None), ('{"none":1 no', 10), ('{"none":1 none', 10), ('{"none":1 yes', 13), ('{"none":1 "yes":1}', None),
            ('{"b c":1 "a c":2}', 9), ('{"b c":1 "a c"', 9), ('{"b c":1 "a c', 13), ('{"b c":1 "a ^c', 13), ('{"b c":1 "a\n', 11),
            ('{"b c":1 "b c":2}', 9), ('{a:1 "":2}', 5), ('{"":1 "":2}', 6), ('{"~":1 a', 7), ('{"~":1 "~~":2}', None), ('{a:1 "A":2}', 5),
            ("{a:1 b:{a:1 a", 12), ("{a:1 b:{b:1} b", 13), ("{a:{b:1} b:1}", None), ("[{b:1} {a:1}]", None), ("{a:1 b:2 ab:3}", 9),
            ("{b:1 a1", 5), ("{b:1 1", 5), ("{b:1 :", 5), ("{b:1 A", 5),
        ):
            self.assertEqual(told_at(text), at, text)
            self.assertEqual(second_at(text), at, text)

    def test_the_sixty_first_figure(self):
        for ahead in ("", "(", "[1 ", "{a:"):
            for minus in ("", "-"):
                begin = ahead + minus
                self.assertEqual(told_at(begin + "9" * 61), len(begin) + 60)
                self.assertEqual(told_at(begin + "1" * 200 + "x"), len(begin) + 60)
                self.assertEqual(told_at(begin + "9" * 60 + "x"), len(begin) + 60)
        self.assertIsNone(told_at("9" * 60))
        self.assertIsNone(told_at("-" + "9" * 60))

    def test_the_beginnings_of_right_texts(self):
        chance = random.Random(461)
        for _ in range(600):
            text = paper_text(draw_thing(chance, 3))
            for end in range(len(text)):
                at = told_at(text[:end])
                self.assertEqual(at, second_at(text[:end]), text[:end])
                # But for right ones only the begin of a key that isn't greater so far breaks off sooner.
                self.assertTrue(at in (None, end) or re.fullmatch("[a-z]+", text[at:end]), text[:end])

    def test_bent_texts(self):
        chance = random.Random(462)
        right = 0
        for _ in range(20000):
            text = bent_text(chance, paper_text(draw_thing(chance, 3)))
            deep = chance.choice((0, 1, 2, 60))
            expected = second_at(text, deep)
            self.assertEqual(told_at(text, deep=deep), expected, (text, deep))
            if expected is None:
                right += 1
                self.assertEqual(paper_text(read_paper(text)), text)
        self.assertGreater(right, 2000)

    def test_all_short_texts(self):
        # Every sign that holds begins a text that can be ended by one of these, whatever the scanner says.
        ends = ["".join(each) for many in range(5) for each in itertools.product(")}", repeat=many)]
        rests = ["", "1", 'A"', '"', '""', '^"', 'n"', ":1", "a:1", "aaa:1", '"~":1', '~":1', '":1', '^":1', 'n":1']
        begins = {"": True}

        def holds(text):
            if text not in begins:
                begins[text] = any(told_at(text + rest + end) is None for rest in rests for end in ends)
            return begins[text]

        for many in range(1, 5):
            for signs in itertools.product('a"^({:)} 1', repeat=many):
                text = "".join(signs)
                at = told_at(text)
                self.assertEqual(at, second_at(text), text)
                if at is not None:
                    far = 0
                    while far < many and holds(text[:far + 1]):
                        far += 1
                    self.assertTrue(far == at or at < far and text[at] in 'a"', (text, at, far))


if __name__ == "__main__":
    unittest.main()
