"""Point 6: plans, records and books as texts."""

import itertools
import random
import unittest

from countveil.errors import NoText
from countveil.plans import plan_wrong
from countveil.records import book_wrong, record_wrong
from countveil.texts import book_text, plan_text, read_book, read_plan, read_record, record_text
from tests.samples import PLAN, PLANS, SMALL, WIDE, refusal

PLAN_TEXT = "sex: f m\nage: old mid y\narea: n ne nort s"
LETTERS = "abcdefghijklmnopqrstuvwxyz"


def place(call, *things):
    """Row and at of the refusal of a text, None where it is read."""
    refused = refusal(call, *things)
    if refused is None:
        return None
    if not isinstance(refused, NoText):
        raise refused
    return (refused.row, refused.at)


def is_word(text, most):
    return 1 <= len(text) <= most and not text.strip(LETTERS)


def begins_word(text, most, taken):
    """Whether a text begins some word that isn't taken; of words that are not full a longer one is always free."""
    return not text or (is_word(text, most) and (len(text) < most or text not in taken))


def is_sort_line(line, names):
    name, colon, rest = line.partition(":")
    blank, *codes = rest.split(" ")
    return (
        colon == ":" and is_word(name, 8) and name not in names and blank == "" and 2 <= len(codes) <= 6
        and all(is_word(code, 4) for code in codes) and len(set(codes)) == len(codes)
    )


def begins_sort_line(text, names):
    name, colon, rest = text.partition(":")
    if not colon:
        return begins_word(name, 8, names)
    if not is_word(name, 8) or name in names:
        return False
    blank, *codes = rest.split(" ")
    whole = codes[:-1]
    if blank or len(codes) > 6 or len(set(whole)) < len(whole) or not all(is_word(code, 4) for code in whole):
        return False
    return not codes or begins_word(codes[-1], 4, whole)


def is_measure(text):
    return text.isdigit() and text == str(int(text)) and int(text) <= 10 ** 6


def is_record_line(line, plan):
    words = line.split(" ")
    return (
        len(words) == len(plan) + 1 and is_measure(words[-1])
        and all(word in (*codes, "-") for word, (name, codes) in zip(words, plan))
    )


def begins_record_line(text, plan):
    *words, last = text.split(" ")
    if len(words) > len(plan) or not all(word in (*codes, "-") for word, (name, codes) in zip(words, plan)):
        return False
    if len(words) == len(plan):
        return last == "" or is_measure(last)
    return any(code.startswith(last) for code in (*plan[len(words)][1], "-"))


def longest(line, begins):
    """How many signs at the beginning of a line are the beginning of some such line."""
    return max(many for many in range(len(line) + 1) if begins(line[:many]))


def place_in_plan(text):
    names = []
    for row, line in enumerate(text.split("\n")):
        if row == 4:
            return (row, 0)
        if not is_sort_line(line, names):
            return (row, longest(line, lambda begin: begins_sort_line(begin, names)))
        names.append(line.partition(":")[0])
    return None


def place_in_records(plan, text, most):
    for row, line in enumerate(text.split("\n")):
        if row == most:
            return (row, 0)
        if not is_record_line(line, plan):
            return (row, longest(line, lambda begin: begins_record_line(begin, plan)))
    return None


def place_in_book(plan, text):
    return place_in_records(plan, text, 60) if text else None


def spoiled(text, chance, signs):
    """The text with one to three signs put in, taken out, exchanged, or all behind one cut off."""
    for _ in range(chance.randint(1, 3)):
        at = chance.randint(0, len(text))
        sign = chance.choice(signs)
        text = chance.choice((
            text[:at] + sign + text[at:], text[:at] + text[at + 1:], text[:at] + sign + text[at + 1:], text[:at],
            text[:at] + text[at - 2:],
        ))
    return text


class Writing(unittest.TestCase):
    def test_plans(self):
        self.assertEqual(plan_text(SMALL), "sex: f m")
        self.assertEqual(plan_text(plan=PLAN), PLAN_TEXT)
        self.assertEqual(
            plan_text(WIDE),
            "a: a b c d e f\nabcdefgh: abcd abc ab a abce b\nabcdefgi: x y\nzz: zzzz aaaa m",
        )

    def test_records(self):
        self.assertEqual(record_text(PLAN, ("f", "old", "nort", 7)), "f old nort 7")
        self.assertEqual(record_text(PLAN, (None, "old", None, 0)), "- old - 0")
        self.assertEqual(record_text(record=(None, 10 ** 6), plan=SMALL), "- 1000000")

    def test_books(self):
        self.assertEqual(book_text(PLAN, []), "")
        self.assertEqual(book_text(SMALL, [("f", 1)]), "f 1")
        self.assertEqual(book_text(book=[("f", 1), (None, 20), ("m", 0)], plan=SMALL), "f 1\n- 20\nm 0")


class ReadingWhatWasWritten(unittest.TestCase):
    def test_plans(self):
        for plan in PLANS:
            self.assertEqual(read_plan(plan_text(plan)), plan)
            self.assertIsNone(plan_wrong(read_plan(text=plan_text(plan))))
        for many in range(2, 7):
            plan = (("abcdefgh", tuple(LETTERS[:many])),)
            self.assertEqual(read_plan(plan_text(plan)), plan)

    def test_records(self):
        for plan in PLANS:
            for codes in itertools.product(*[(*codes, None) for name, codes in plan]):
                record = (*codes, 12)
                self.assertEqual(read_record(plan, record_text(plan, record)), record)

    def test_measures(self):
        for measure in (*range(120), 999, 1000, 99999, 100000, 123456, 999999, 10 ** 6):
            told = read_record(text=f"f {measure}", plan=SMALL)
            self.assertEqual(told, ("f", measure))
            self.assertIsNone(record_wrong(SMALL, told))

    def test_books(self):
        for many in (0, 1, 2, 59, 60):
            book = [("f", "old", "ne", n) if n % 3 else (None, "y", None, 10 ** 6 - n) for n in range(many)]
            told = read_book(text=book_text(PLAN, book), plan=PLAN)
            self.assertEqual(told, book)
            self.assertIsNone(book_wrong(PLAN, told))

    def test_a_book_without_records(self):
        self.assertEqual(read_book(PLAN, ""), [])


class NoPlanText(unittest.TestCase):
    def check(self, rows):
        for text, told in rows:
            self.assertEqual(place(read_plan, text), told, text)

    def test_ending_too_soon(self):
        self.check([
            ("", (0, 0)), ("s", (0, 1)), ("sex", (0, 3)), ("abcdefgh", (0, 8)), ("sex:", (0, 4)), ("sex: ", (0, 5)),
            ("sex: f", (0, 6)), ("sex: f ", (0, 7)), ("sex: f m ", (0, 9)), ("sex: f m\nage", (1, 3)),
            ("sex: f m\nage: o", (1, 6)), ("sex: a b c d e ", (0, 15)),
        ])

    def test_a_sign_too_many_or_another_one(self):
        self.check([
            (" ", (0, 0)), (":", (0, 0)), (": f m", (0, 0)), (" sex: f m", (0, 0)), ("Sex: f m", (0, 0)),
            ("sEx: f m", (0, 1)), ("sex : f m", (0, 3)), ("sex f m", (0, 3)), ("sex:f m", (0, 4)), ("sex:  f m", (0, 5)),
            ("sex: f  m", (0, 7)), ("sex: f, m", (0, 6)), ("sex: f m.", (0, 8)), ("sex: - m", (0, 5)),
            ("sex: f M", (0, 7)), ("sex: f m1", (0, 8)), ("sex:: f m", (0, 4)), ("sex: f: m", (0, 6)),
            ("`: f m", (0, 0)), ("{: f m", (0, 0)), ("a: ` m", (0, 3)), ("a: f {", (0, 5)),
        ])

    def test_lengths(self):
        self.check([
            ("abcdefghi: f m", (0, 8)), ("abcdefgh: f m", None), ("sex: abcde m", (0, 9)), ("sex: f abcde", (0, 11)),
            ("sex: f abcd", None), ("sex: a b c d e f", None), ("sex: a b c d e f ", (0, 16)),
            ("sex: a b c d e f g", (0, 16)), ("sex: a b c d e ffff", None), ("sex: a b c d e fffff", (0, 19)),
        ])

    def test_a_code_that_is_there_already(self):
        self.check([
            ("sex: f f", (0, 8)), ("sex: f f m", (0, 8)), ("sex: f m f", (0, 10)), ("sex: f m m ", (0, 10)),
            ("sex: fff fff", (0, 12)), ("sex: fff fff m", (0, 12)), ("sex: fff ffff", None),
            ("sex: abcd abcd", (0, 13)), ("sex: abcd abcd m", (0, 13)), ("sex: abcd abcde", (0, 13)),
            ("sex: abcd x abcd", (0, 15)), ("sex: abcd abc", None), ("sex: abcd abc abcd", (0, 17)),
            ("sex: abcd abc abc", (0, 17)), ("sex: a b c d e a", (0, 16)), ("sex: a b c d e a g", (0, 16)),
            ("sex: a b c d e aa g", (0, 17)), ("sex: aaaa b c d e aaaa", (0, 21)), ("sex: f f1", (0, 8)),
        ])

    def test_a_name_that_is_there_already(self):
        self.check([
            ("sex: f m\nsex: f m", (1, 3)), ("sex: f m\nsex", (1, 3)), ("sex: f m\nsexy: f m", None),
            ("sex: f m\nse: f m", None), ("sex: f m\nage: o y\nsex: f m", (2, 3)), ("sex: f m\nsex f m", (1, 3)),
            ("abcdefgh: f m\nabcdefgh: f m", (1, 7)), ("abcdefgh: f m\nabcdefgh", (1, 7)),
            ("abcdefgh: f m\nabcdefghi: f m", (1, 7)), ("abcdefgh: f m\nabcdefg: f m", None),
            ("abcdefg: f m\nabcdefg: f m", (1, 7)), ("abcdefg: f m\nabcdefgh: f m", None),
            ("abcdefgh: f m\na: f m\nabcdefgi: f m\nabcdefgh: x y", (3, 7)),
        ])

    def test_lines_too_many(self):
        four = plan_text(WIDE)
        self.check([
            (f"{four}\nb: x y", (4, 0)), (f"{four}\n", (4, 0)), (f"{four}\na", (4, 0)), (f"{four}\n\n", (4, 0)),
            (f"{four}x", None), (f"{four}x\nb: x y", (4, 0)),
        ])

    def test_the_first_line_that_is_none(self):
        self.check([
            ("sex: f\nage: o\n", (0, 6)), ("sex: f m\nage: o\nx", (1, 6)), ("a: x\n" * 5, (0, 4)),
            ("a: x y\nb: x y\nc: x y\nd: x\ne: x y", (3, 4)),
        ])

    def test_line_ends(self):
        self.check([
            ("\n", (0, 0)), ("sex: f m\n", (1, 0)), ("\nsex: f m", (0, 0)), ("sex: f m\n\nage: o y", (1, 0)),
            ("sex:\n f m", (0, 4)), (f"{PLAN_TEXT}\n", (3, 0)),
        ])

    def test_long_texts(self):
        self.check([
            ("a" * 10000, (0, 8)), ("\n" * 10000, (0, 0)), ("sex:" + " f" * 4998, (0, 8)), ("1" * 10000, (0, 0)),
        ])

    def test_each_beginning_of_a_plan(self):
        for plan in PLANS:
            text = plan_text(plan)
            for many in range(len(text)):
                self.assertEqual(place(read_plan, text[:many]), place_in_plan(text[:many]), text[:many])

    def test_spoiled_texts(self):
        chance = random.Random(4)
        read = 0
        for _ in range(6000):
            text = spoiled(plan_text(chance.choice(PLANS)), chance, "abcdefgz: \n-0A")
            told = place_in_plan(text)
            self.assertEqual(place(read_plan, text), told, text)
            if told is None:
                read += 1
                self.assertEqual(plan_text(read_plan(text)), text)
        self.assertGreater(read, 100)

    def test_short_lines_of_few_signs(self):
        for many in range(7):
            for signs in itertools.product("ab: ", repeat=many):
                text = "".join(signs)
                self.assertEqual(place(read_plan, text), place_in_plan(text), text)
                text = f"ab: a b\n{text}"
                self.assertEqual(place(read_plan, text), place_in_plan(text), text)


class NoRecordText(unittest.TestCase):
    def check(self, plan, rows):
        for text, told in rows:
            self.assertEqual(place(read_record, plan, text), told, text)

    def test_ending_too_soon(self):
        self.check(PLAN, [
            ("", (0, 0)), ("f", (0, 1)), ("f ", (0, 2)), ("f o", (0, 3)), ("f old", (0, 5)), ("- ", (0, 2)),
            ("f old n", (0, 7)), ("f old nor", (0, 9)), ("f old nort", (0, 10)), ("f old nort ", (0, 11)),
        ])

    def test_a_sign_too_many_or_another_one(self):
        self.check(PLAN, [
            ("x old n 7", (0, 0)), (" f old n 7", (0, 0)), ("F old n 7", (0, 0)), ("ff old n 7", (0, 1)),
            ("f  old n 7", (0, 2)), ("f n n 7", (0, 2)), ("f ol n 7", (0, 4)), ("f oldd n 7", (0, 5)),
            ("f old nor 7", (0, 9)), ("f old norts 7", (0, 10)), ("f old nee 7", (0, 8)), ("f old w 7", (0, 6)),
            ("f old n  7", (0, 8)), ("f old n x", (0, 8)), ("f old n 7 ", (0, 9)), ("f old n 7x", (0, 9)),
            ("f old n -", (0, 8)), ("f old n -7", (0, 8)), ("f old n +7", (0, 8)), ("f old n 7.", (0, 9)),
            ("f old n 7_0", (0, 9)), ("f old n 7 7", (0, 9)), ("f old 7", (0, 6)), ("-- old n 7", (0, 1)),
            ("f - - 7", None), ("f -old n 7", (0, 3)), ("7", (0, 0)), ("f old n n 7", (0, 8)), ("f old n 7/", (0, 9)),
            ("f old n :", (0, 8)), ("f old n /", (0, 8)), ("none old n 7", (0, 0)),
        ])

    def test_measures(self):
        self.check(SMALL, [
            ("f 0", None), ("f 00", (0, 3)), ("f 01", (0, 3)), ("f 0 ", (0, 3)), ("f 7", None), ("f 999999", None),
            ("f 1000000", None), ("f 1000001", (0, 8)), ("f 1000009", (0, 8)), ("f 1000010", (0, 8)),
            ("f 10000000", (0, 9)), ("f 9999999", (0, 8)), ("f 2000000", (0, 8)), ("f 1100000", (0, 8)),
            ("f 1000000 ", (0, 9)), ("f 1000000x", (0, 9)), ("f 0x10", (0, 3)), ("f 0000000", (0, 3)),
        ])

    def test_a_second_line(self):
        self.check(SMALL, [
            ("f 1\nf 1", (1, 0)), ("f 1\n", (1, 0)), ("f 1\n\n", (1, 0)), ("f 1\nx", (1, 0)), ("f\nf 1", (0, 1)),
            ("\nf 1", (0, 0)), ("\n", (0, 0)), ("f \n1", (0, 2)),
        ])

    def test_long_texts(self):
        self.check(SMALL, [
            ("f " + "1" * 9998, (0, 8)), ("f " + "0" * 9998, (0, 3)), ("f" * 10000, (0, 1)), ("\n" * 10000, (0, 0)),
            ("f 1\n" * 2500, (1, 0)),
        ])

    def test_spoiled_texts(self):
        chance = random.Random(5)
        read = 0
        for _ in range(6000):
            plan = chance.choice(PLANS)
            codes = [chance.choice((*codes, None)) for name, codes in plan]
            measure = chance.choice((0, 5, 10, 99, 123456, 999999, 10 ** 6))
            text = spoiled(record_text(plan, (*codes, measure)), chance, "abcdefnm0123456789- \n:")
            told = place_in_records(plan, text, 1)
            self.assertEqual(place(read_record, plan, text), told, text)
            if told is None:
                read += 1
                self.assertEqual(record_text(plan, read_record(plan, text)), text)
        self.assertGreater(read, 100)

    def test_short_lines_of_few_signs(self):
        plan = (("s", ("a", "ab", "bb")), ("t", ("b", "ba")))
        for many in range(8):
            for signs in itertools.product("ab- 0", repeat=many):
                text = "".join(signs)
                self.assertEqual(place(read_record, plan, text), place_in_records(plan, text, 1), text)


class NoBookText(unittest.TestCase):
    def check(self, plan, rows):
        for text, told in rows:
            self.assertEqual(place(read_book, plan, text), told, text)

    def test_the_first_line_that_is_none(self):
        self.check(SMALL, [
            ("f", (0, 1)), ("f 1\nf", (1, 1)), ("f 1\nm 01\nx", (1, 3)), ("f 1\nx 1\nf 1", (1, 0)),
            ("x\nx\nx", (0, 0)), ("f 1\n- 2\nm 1000001", (2, 8)),
        ])

    def test_line_ends(self):
        self.check(SMALL, [
            ("", None), ("\n", (0, 0)), ("f 1\n", (1, 0)), ("\nf 1", (0, 0)), ("f 1\n\nf 1", (1, 0)), (" ", (0, 0)),
            ("f 1\n\n", (1, 0)),
        ])

    def test_sixty_lines_and_more(self):
        sixty = "\n".join(["f 1"] * 60)
        self.check(SMALL, [
            (sixty, None), (f"{sixty}\nf 1", (60, 0)), (f"{sixty}\n", (60, 0)), (f"{sixty}\nx", (60, 0)),
            (f"{sixty}\nf", (60, 0)), (f"{sixty}\nf 1\nf 1", (60, 0)), (f"{sixty}x\nf 1", (59, 3)),
            (f"x{sixty}\nf 1", (0, 0)),
        ])
        self.assertEqual(read_book(SMALL, sixty), [("f", 1)] * 60)

    def test_spoiled_texts(self):
        chance = random.Random(6)
        for _ in range(2000):
            plan = chance.choice(PLANS)
            book = [
                (*[chance.choice((*codes, None)) for name, codes in plan], chance.choice((0, 30, 10 ** 6)))
                for _ in range(chance.choice((0, 1, 2, 3, 60)))
            ]
            text = spoiled(book_text(plan, book), chance, "abcdefnm0123456789- \n:")
            told = place_in_book(plan, text)
            self.assertEqual(place(read_book, plan, text), told, text)
            if told is None:
                self.assertEqual(book_text(plan, read_book(plan, text)), text)


if __name__ == "__main__":
    unittest.main()
