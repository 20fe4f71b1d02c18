"""Papers as texts: whatever is told, written as a text, and read again.

The readers of a part of a text tell a tuple: what stands at the place, and the place behind it.
"""

from countveil.errors import NoNumber, NoText, TooDeep, TooGreat
from countveil.kinds import is_figure_sign, is_small_letter, is_whole_within

MOST_DEEP = 60
MOST_FIGURES = 60
# The least number of more figures than MOST_FIGURES.
LEAST_TOO_GREAT = 10 ** 60
# Words that write something else than themselves.
MEANT = {"none": None, "yes": True, "no": False}
# What is written between two signs " for a sign that can't stand there itself, and back.
WRITTEN = {'"': '^"', "^": "^^", "\n": "^n"}
WRITTEN_BY = {'"': '"', "^": "^", "n": "\n"}
CLOSING = {"(": ")", "[": "]", "{": "}"}


def need_deep(deep):
    """Refuse what is no number of things that may lie within one another."""
    if not is_whole_within(deep, 0, MOST_DEEP):
        raise NoNumber("this is no number of things within one another")


def things_in(thing):
    """The things in a tuple, a list or a dict; None of another thing."""
    if isinstance(thing, dict):
        return list(thing.values())
    return list(thing) if isinstance(thing, (tuple, list)) else None


def lies_deeper(thing, deep):
    """Whether more than so many tuples, lists and dicts lie within one another."""
    inner = things_in(thing)
    if inner is None:
        return False
    return deep == 0 or any(lies_deeper(each, deep - 1) for each in inner)


def is_bare(text):
    """Whether a text is written as it is, without signs " around it."""
    return text != "" and text not in MEANT and all(is_small_letter(sign) for sign in text)


def text_of_text(text):
    """How a text is written."""
    if is_bare(text):
        return text
    return '"' + "".join([WRITTEN.get(sign, sign) for sign in text]) + '"'


def text_of_plain(thing):
    """How a thing is written that has no things in it."""
    if thing is None:
        return "none"
    if isinstance(thing, bool):
        return "yes" if thing else "no"
    if isinstance(thing, str):
        return text_of_text(thing)
    if abs(thing) >= LEAST_TOO_GREAT:
        raise TooGreat("a number has too many figures")
    return str(thing)


def text_of_thing(thing):
    """How a thing is written."""
    if isinstance(thing, dict):
        return "{" + " ".join([text_of_text(key) + ":" + text_of_thing(thing[key]) for key in sorted(thing)]) + "}"
    inner = things_in(thing)
    if inner is None:
        return text_of_plain(thing)
    written = " ".join([text_of_thing(each) for each in inner])
    return f"({written})" if isinstance(thing, tuple) else f"[{written}]"


def paper_text(thing, *, deep=MOST_DEEP):
    """The text of a thing."""
    need_deep(deep)
    if lies_deeper(thing, deep):
        raise TooDeep("too many things lie within one another")
    return text_of_thing(thing)


def sign_at(text, at):
    """The sign at the place; a text without signs where there is none."""
    return text[at:at + 1]


def letters_end(text, begin):
    """Where the small letters from begin on end."""
    end = begin
    while is_small_letter(sign_at(text, end)):
        end += 1
    return end


def figures_end(text, begin):
    """Where the figures from begin on end; a nought has none behind it."""
    if sign_at(text, begin) == "0":
        return begin + 1
    end = begin
    while is_figure_sign(sign_at(text, end)):
        if end - begin == MOST_FIGURES:
            raise NoText(0, end)
        end += 1
    return end


def read_word(text, at):
    """What a word of small letters at the place writes."""
    end = letters_end(text, at)
    word = text[at:end]
    return (MEANT.get(word, word), end)


def read_number(text, at):
    """The whole number at the place, where a figure or - stands."""
    begin = at + 1 if sign_at(text, at) == "-" else at
    if begin > at and sign_at(text, begin) == "0":
        raise NoText(0, begin)
    end = figures_end(text, begin)
    if end == begin:
        raise NoText(0, begin)
    return (int(text[at:end]), end)


def read_sign(text, at):
    """The sign of a text between two signs " that is written at the place, none of those."""
    sign = sign_at(text, at)
    if sign == "" or sign == "\n":
        raise NoText(0, at)
    if sign != "^":
        return (sign, at + 1)
    behind = sign_at(text, at + 1)
    if behind not in WRITTEN_BY:
        raise NoText(0, at + 1)
    return (WRITTEN_BY[behind], at + 2)


def read_quoted(text, at):
    """The text between the sign " at the place and the next one."""
    signs = []
    end = at + 1
    while sign_at(text, end) != '"':
        sign, end = read_sign(text, end)
        signs.append(sign)
    read = "".join(signs)
    if is_bare(read):
        raise NoText(0, at)
    return (read, end + 1)


def read_key(text, at, ahead):
    """The key at the place, : behind it; ahead are the keys ahead of it, with their things."""
    is_quoted = sign_at(text, at) == '"'
    if is_quoted:
        key, end = read_quoted(text, at)
    else:
        end = letters_end(text, at)
        key = text[at:end]
    if len(ahead) > 0 and key <= ahead[-1][0]:
        raise NoText(0, at)
    # Without signs " neither nothing nor a word that writes something else is a text.
    if sign_at(text, end) != ":" or (not is_quoted and not is_bare(key)):
        raise NoText(0, end)
    return (key, end + 1)


def read_inner(text, at, deep):
    """Tuples (key, thing) of all between the sign at the place and the one that closes it; key None but in a dict."""
    opening = sign_at(text, at)
    found = []
    end = at + 1
    if sign_at(text, end) == CLOSING[opening]:
        return (found, end + 1)
    while True:
        key = None
        if opening == "{":
            key, end = read_key(text, end, found)
        thing, end = read_thing(text, end, deep)
        found.append((key, thing))
        if sign_at(text, end) == CLOSING[opening]:
            return (found, end + 1)
        if sign_at(text, end) != " ":
            raise NoText(0, end)
        end += 1


def read_container(text, at, deep):
    """The tuple, the list or the dict that is opened at the place."""
    if deep == 0:
        raise NoText(0, at)
    found, end = read_inner(text, at, deep - 1)
    if sign_at(text, at) == "{":
        return ({key: thing for key, thing in found}, end)
    things = [thing for key, thing in found]
    return (tuple(things) if sign_at(text, at) == "(" else things, end)


def read_thing(text, at, deep):
    """The thing at the place, in which at most so many lie within one another."""
    sign = sign_at(text, at)
    if is_small_letter(sign):
        return read_word(text, at)
    if sign == '"':
        return read_quoted(text, at)
    if sign == "-" or is_figure_sign(sign):
        return read_number(text, at)
    if sign not in CLOSING:
        raise NoText(0, at)
    return read_container(text, at, deep)


def read_paper(text, *, deep=MOST_DEEP):
    """The thing that the text writes."""
    need_deep(deep)
    thing, end = read_thing(text, 0, deep)
    if end < len(text):
        raise NoText(0, end)
    return thing
