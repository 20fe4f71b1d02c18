"""A desk, at which a house is told its deeds, and asked, by texts."""

from countveil.errors import NoLine, NoNumber, NoTitle
from countveil.housedeeds import THINGS_BEHIND, is_new_title
from countveil.houses import House
from countveil.kinds import is_figure_sign, is_tuple_of
from countveil.papertexts import paper_text, read_paper
from countveil.releases import fixed
from countveil.rules import all_codes

MOST_FIGURES_OF_NUMBER = 30
TITLE = "t"
NUMBER = "n"
PAPER = "p"
# What stands behind each word: a title, numbers, a paper, each where it is one.
FORMS = {
    "begin": "tp",
    "end": "t",
    "take": "tp",
    "drop": "tn",
    "fix": "tnnp",
    "mend": "tnp",
    "publish": "tnnn",
    "back": "",
    "again": "",
    "plan": "t",
    "rules": "t",
    "book": "t",
    "faults": "t",
    "out": "t",
    "published": "t",
    "revised": "tp",
    "log": "",
    "titles": "",
    "vintage": "t",
    "fixed": "tp",
}


def is_number_text(word):
    """Whether the word writes a NUMBER."""
    figures = word.removeprefix("-")
    if not 1 <= len(figures) <= MOST_FIGURES_OF_NUMBER or not all(is_figure_sign(sign) for sign in figures):
        return False
    # Python reads, but doesn't write, a nought ahead of another figure, or behind a -.
    return str(int(word)) == word


def words_of(text):
    """The words of a line, its paper as one of them; refused is what is no line."""
    words = text.split(" ")
    if "\n" in text or words[0] not in FORMS:
        raise NoLine("this is no line")
    form = FORMS[words[0]]
    if form.endswith(PAPER):
        words = [*words[:len(form)], " ".join(words[len(form):])]
    if len(words) != 1 + len(form) or (form.endswith(PAPER) and words[-1] == ""):
        raise NoLine("this line has another count of words")
    return words


def is_title_for(house, word, title):
    """Whether it is the title of a survey, or, to begin one, a title that none has."""
    return is_new_title(house.titles(), title) if word == "begin" else title in house.titles()


def thing_read(house, word, kind, part):
    """What a part of a line writes, by its kind."""
    if kind == PAPER:
        return read_paper(part)
    if kind == TITLE:
        if not is_title_for(house, word, part):
            raise NoTitle("this is no title that fits here")
        return part
    if not is_number_text(part):
        raise NoNumber("this is no number")
    return int(part)


def things_read(house, words):
    """The things that stand behind the first word, as the house takes them."""
    word = words[0]
    things = [thing_read(house, word, kind, part) for kind, part in zip(FORMS[word], words[1:])]
    if word != "begin":
        return things
    title, both = things
    if not is_tuple_of(both, 2):
        raise NoLine("this is no tuple of a plan and rules")
    return [title, *both]


def fixed_by_out(house, title, figure):
    """What fixed tells of a figure of the survey's fine cells by all that is out."""
    return fixed(len(all_codes(house.plan_of(title))), house.out(title), figure)


def asked(house, word, things):
    """What the house tells where it is asked by that word."""
    match word:
        case "plan":
            return house.plan_of(*things)
        case "rules":
            return house.rules_of(*things)
        case "book":
            return house.book_of(*things)
        case "faults":
            return house.faults(*things)
        case "out":
            return house.out(*things)
        case "published":
            return house.published(*things)
        case "revised":
            return house.revised(*things)
        case "vintage":
            return house.vintage(*things)
        case "fixed":
            return fixed_by_out(house, *things)
        case _:
            return house.log()


def told_at(house, word, things):
    """What the house tells to a deed, or where it is asked."""
    if word in THINGS_BEHIND:
        return house.do(word, things)
    if word == "back":
        return house.back()
    if word == "again":
        return house.again()
    return asked(house, word, things)


class Desk:
    """A desk with a house, at first empty."""

    def __init__(self):
        self.house = House()

    def say(self, text):
        """The answer to a text: a deed, or something asked."""
        words = words_of(text)
        things = things_read(self.house, words)
        if words[0] == "titles":
            return " ".join(self.house.titles())
        told = told_at(self.house, words[0], things)
        return "ok" if told is None else paper_text(told)
