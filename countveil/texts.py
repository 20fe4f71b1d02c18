"""Plans, records and books as texts, and back.

The readers of one line tell a tuple: what the line writes, or None, and how many signs
at its beginning are the beginning of some such line.
"""

from countveil.errors import NoText
from countveil.kinds import is_figure_sign, is_small_letter
from countveil.plans import LEAST_CODES, MOST_CODE, MOST_CODES, MOST_NAME, MOST_SORTS, need_plan
from countveil.records import MOST_MEASURE, MOST_RECORDS, need_book, need_record

NO_ANSWER = "-"


def sort_line(sort):
    """The line of a sort."""
    name, codes = sort
    return f"{name}:" + "".join([f" {code}" for code in codes])


def record_line(record):
    """The line of a record."""
    words = [NO_ANSWER if code is None else code for code in record[:-1]]
    return " ".join([*words, str(record[-1])])


def plan_text(plan):
    """The text of a plan."""
    need_plan(plan)
    return "\n".join([sort_line(sort) for sort in plan])


def record_text(plan, record):
    """The text of a record."""
    need_plan(plan)
    need_record(plan, record)
    return record_line(record)


def book_text(plan, book):
    """The text of a book."""
    need_plan(plan)
    need_book(plan, book)
    return "\n".join([record_line(record) for record in book])


def word_end(line, begin, most, taken):
    """Where the signs from begin on stop to begin a word of one to most small letters that is not taken."""
    end = begin
    while end < len(line) and end - begin < most and is_small_letter(line[end]):
        end += 1
    # A taken word may go on to a longer one that is free, but not where it is as long as words may be.
    if end - begin == most and line[begin:end] in taken:
        return end - 1
    return end


def is_free(word, taken):
    """Whether a word has signs and is none of those taken."""
    return word != "" and word not in taken


def read_codes(line, begin):
    """The codes from begin on, each with a blank ahead, as many as may be, and where they break off."""
    codes = []
    at = begin
    while len(codes) < MOST_CODES and line[at:at + 1] == " ":
        first = at + 1
        at = word_end(line, first, MOST_CODE, codes)
        code = line[first:at]
        if not is_free(code, codes):
            return (None, at)
        codes.append(code)
    if at < len(line) or len(codes) < LEAST_CODES:
        return (None, at)
    return (tuple(codes), at)


def read_sort(line, ahead):
    """The sort of a line, its name that of no sort ahead, and where the line breaks off."""
    names = [sort[0] for sort in ahead]
    at = word_end(line, 0, MOST_NAME, names)
    name = line[:at]
    if not is_free(name, names) or line[at:at + 1] != ":":
        return (None, at)
    codes, at = read_codes(line, at + 1)
    if codes is None:
        return (None, at)
    return ((name, codes), at)


def alike_at_begin(one, other):
    """How many signs at the beginning of two texts are the same."""
    many = 0
    while many < len(one) and many < len(other) and one[many] == other[many]:
        many += 1
    return many


def read_answer(codes, rest):
    """The code, or -, that rest begins with, a blank behind it, and how far rest is the beginning of one."""
    far = 0
    for word in [*codes, NO_ANSWER]:
        if rest.startswith(f"{word} "):
            return (word, len(word) + 1)
        far = max(far, alike_at_begin(f"{word} ", rest))
    return (None, far)


def is_measure_text(text):
    """Whether a text, all but whose last sign is known to, or is nothing, writes a measure."""
    if not is_figure_sign(text[-1]):
        return False
    if text[0] == "0":
        return len(text) == 1
    return int(text) <= MOST_MEASURE


def read_measure(rest):
    """The measure that rest writes, and how far rest is the beginning of one."""
    # Whatever begins a measure writes one itself: so the first sign that breaks this breaks off the line.
    many = 0
    while many < len(rest) and is_measure_text(rest[:many + 1]):
        many += 1
    if many == 0 or many < len(rest):
        return (None, many)
    return (int(rest), many)


def read_record_line(plan, line):
    """The record of a line, and where the line breaks off."""
    things = []
    at = 0
    for name, codes in plan:
        word, far = read_answer(codes, line[at:])
        at += far
        if word is None:
            return (None, at)
        things.append(None if word == NO_ANSWER else word)
    measure, far = read_measure(line[at:])
    if measure is None:
        return (None, at + far)
    return ((*things, measure), at + far)


def read_lines(text, most, read_line):
    """What the lines write, at most so many; read_line gets each line and what those ahead of it write."""
    things = []
    for row, line in enumerate(text.split("\n")):
        if row == most:
            raise NoText(row, 0)
        thing, at = read_line(line, things)
        if thing is None:
            raise NoText(row, at)
        things.append(thing)
    return things


def read_records(plan, text, most):
    """The records of a text with a line for each, at most so many."""
    return read_lines(text, most, lambda line, ahead: read_record_line(plan, line))


def read_plan(text):
    """The plan that the text writes."""
    return tuple(read_lines(text, MOST_SORTS, read_sort))


def read_record(plan, text):
    """The record of the plan that the text writes."""
    need_plan(plan)
    return read_records(plan, text, 1)[0]


def read_book(plan, text):
    """The book of the plan that the text writes."""
    need_plan(plan)
    # A book without records has no line at all, not one without signs.
    if text == "":
        return []
    return read_records(plan, text, MOST_RECORDS)
