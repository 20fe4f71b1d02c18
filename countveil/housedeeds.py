"""The seven deeds of a house: what each makes of its surveys, a dict by their titles, and what it tells.

Each deed tells a tuple: the surveys behind it, a new dict, and what is told.
"""

from countveil.counting import COUNT, are_unlike_sorts, table_counted
from countveil.errors import (
    Fixed,
    NoLeast,
    NoNumber,
    NoPattern,
    NoPlace,
    NoRight,
    NoSort,
    NotClean,
    NoTitle,
    TooGreat,
    TooMany,
)
from countveil.kinds import is_whole_within
from countveil.mends import mend
from countveil.patterns import MOST_GUARDS, least_pattern
from countveil.plans import is_name, need_plan
from countveil.records import (
    MOST_RECORDS,
    is_number_in,
    is_thing_place,
    need_record,
    with_record_at,
    with_thing,
    without_record,
)
from countveil.releases import MOST_FINE, MOST_PUBLISHED, all_fixed
from countveil.rules import all_codes, need_rules
from countveil.surveys import (
    Survey,
    faults_of,
    own_publication,
    places_of_cell,
    publication_of,
    published_rows,
    with_book,
    with_publication,
)
from countveil.tables import all_places

MOST_SURVEYS = 6
MOST_LEAST = 10


def is_new_title(surveys, title):
    """Whether it is a title, and that of no survey."""
    return is_name(title) and title not in surveys


def survey_by(surveys, title):
    """The survey of that title; refused is what is the title of none."""
    if not is_name(title) or title not in surveys:
        raise NoTitle("there is no survey of this title")
    return surveys[title]


def with_survey(surveys, title, survey):
    """The surveys with this one by its title."""
    return {**surveys, title: survey}


def need_number_in(survey, number):
    """Refuse what is the number of no record of the survey."""
    if not is_number_in(survey.book, number):
        raise NoNumber("there is no record of this number")


def deed_begin(surveys, title, plan, rules):
    """A survey without records comes behind the others."""
    if not is_new_title(surveys, title):
        raise NoTitle("this is no title for a new survey")
    need_plan(plan)
    need_rules(plan, rules)
    if len(all_codes(plan)) > MOST_FINE:
        raise TooGreat("the plan has too many fine cells")
    if len(surveys) == MOST_SURVEYS:
        raise TooMany("there are too many surveys")
    return (with_survey(surveys, title, Survey(plan, list(rules), [], None)), None)


def deed_end(surveys, title):
    """The survey is gone."""
    survey_by(surveys, title)
    return ({other: surveys[other] for other in surveys if other != title}, None)


def deed_take(surveys, title, record):
    """The record comes behind the others of the survey; its number is told."""
    survey = survey_by(surveys, title)
    need_record(survey.plan, record)
    if len(survey.book) == MOST_RECORDS:
        raise TooMany("there are too many records")
    return (with_survey(surveys, title, with_book(survey, [*survey.book, record])), len(survey.book))


def deed_drop(surveys, title, number):
    """The record of that number is gone."""
    survey = survey_by(surveys, title)
    need_number_in(survey, number)
    return (with_survey(surveys, title, with_book(survey, without_record(survey.book, number))), None)


def deed_fix(surveys, title, number, place, thing):
    """The thing comes at the place of the record of that number."""
    survey = survey_by(surveys, title)
    need_number_in(survey, number)
    if not is_thing_place(survey.plan, place):
        raise NoPlace("this is no place of a record")
    record = with_thing(survey.book[number], place, thing)
    need_record(survey.plan, record)
    return (with_survey(surveys, title, with_book(survey, with_record_at(survey.book, number, record))), None)


def deed_mend(surveys, title, number, costs):
    """The mend of the record of that number comes in its place."""
    survey = survey_by(surveys, title)
    need_number_in(survey, number)
    cost, record, tree = mend(survey.plan, survey.rules, costs, survey.book[number])
    if record is None:
        raise NoRight("no record is right and whole")
    return (with_survey(surveys, title, with_book(survey, with_record_at(survey.book, number, record))), None)


def barred_places(cells, least):
    """The places of the cells that are too small to be told; they are refused where there are too many."""
    found = [(i, k) for i, k in all_places(cells) if 1 <= cells[i][k] < least]
    if len(found) > MOST_GUARDS:
        raise TooMany("too many cells are barred")
    return found


def places_to_hide(cells, barred, least):
    """The hidden list by which the span of each barred cell goes from 0 to least, or farther."""
    hidden = least_pattern(cells, [(i, k, cells[i][k], least - cells[i][k]) for i, k in barred])
    if hidden is None:
        raise NoPattern("no pattern hides enough")
    return hidden


def need_clean(survey):
    """Refuse a survey with a record that is barred or not whole."""
    faults = faults_of(survey)
    if len(faults) > 0:
        raise NotClean(faults[0])


def need_not_fixed(plan, release, barred):
    """Refuse a release of too many rows, then one that fixes a barred figure."""
    if len(release) > MOST_PUBLISHED:
        raise TooMany("too many rows would be out")
    found = all_fixed(len(all_codes(plan)), release, barred)
    if len(found) > 0:
        raise Fixed(list(barred[found[0]]))


def deed_publish(surveys, title, one, other, least):
    """The table of two sorts is published, its small cells hidden well enough; the publication is told."""
    survey = survey_by(surveys, title)
    plan = survey.plan
    if not are_unlike_sorts(plan, [one, other]):
        raise NoSort("these are no numbers of two unlike sorts")
    if not is_whole_within(least, 1, MOST_LEAST):
        raise NoLeast("this is no least worth of a told cell")
    need_clean(survey)
    cells = table_counted(plan, survey.book, one, other, COUNT)[2]
    small = barred_places(cells, least)
    hidden = places_to_hide(cells, small, least)
    release = [*survey.release, *published_rows(plan, one, other, cells, hidden)]
    barred = [*survey.barred, *[places_of_cell(plan, one, other, place) for place in small]]
    need_not_fixed(plan, release, barred)
    publication = publication_of(one, other, cells, hidden)
    behind = with_publication(survey, publication, release, barred)
    return (with_survey(surveys, title, behind), own_publication(publication))


DEEDS = {
    "begin": deed_begin,
    "end": deed_end,
    "take": deed_take,
    "drop": deed_drop,
    "fix": deed_fix,
    "mend": deed_mend,
    "publish": deed_publish,
}
# How many things stand behind each of these words.
THINGS_BEHIND = {"begin": 3, "end": 1, "take": 2, "drop": 2, "fix": 4, "mend": 3, "publish": 4}


def is_deed(thing):
    """Whether it is a tuple of one of the seven words and as many things as stand behind it."""
    if not isinstance(thing, tuple) or len(thing) == 0 or not isinstance(thing[0], str):
        return False
    return thing[0] in THINGS_BEHIND and len(thing) == 1 + THINGS_BEHIND[thing[0]]


def deed_done(surveys, word, things):
    """What the deed of that word makes of the surveys, and what it tells."""
    deed = DEEDS[word]
    return deed(surveys, *things)
