"""A house of surveys, whose deeds can be taken back."""

from countveil.errors import CountError, NoBack, NoDeed
from countveil.housedeeds import deed_done, is_deed, survey_by
from countveil.revised import need_figure, worth_in
from countveil.surveys import faults_of, own_publication, own_release, vintages_of

DONE = "done"
REFUSED = "refused"


class House:
    """Surveys by their titles; what is refused changes nothing but the log."""

    def __init__(self):
        # No dict of surveys is ever changed: so those ahead of each deed can be kept, to be taken back.
        self.surveys = {}
        self.behind = []
        self.undone = []
        self.calls = []

    def __len__(self):
        return len(self.surveys)

    def tried(self, word, things):
        """Do a deed and tell what it tells; what back then takes back isn't settled yet."""
        try:
            surveys, told = deed_done(self.surveys, word, things)
        except CountError:
            self.calls.append((word, REFUSED))
            raise
        self.surveys = surveys
        self.calls.append((word, DONE))
        return told

    def settle(self, surveys):
        """What was done since there were these surveys is one deed."""
        self.behind.append(surveys)
        self.undone = []

    def do(self, word, things):
        """Do the deed of one of the seven words, and tell what it tells."""
        surveys = self.surveys
        told = self.tried(word, things)
        self.settle(surveys)
        return told

    def begin(self, title, plan, rules):
        """A survey without records comes behind the others."""
        return self.do("begin", (title, plan, rules))

    def end(self, title):
        """The survey is gone."""
        return self.do("end", (title,))

    def take(self, title, record):
        """The record comes behind the others; its number is told."""
        return self.do("take", (title, record))

    def drop(self, title, number):
        """The record of that number is gone."""
        return self.do("drop", (title, number))

    def fix(self, title, number, place, thing):
        """The thing comes at the place of the record of that number."""
        return self.do("fix", (title, number, place, thing))

    def mend(self, title, number, costs):
        """The mend of the record of that number comes in its place."""
        return self.do("mend", (title, number, costs))

    def publish(self, title, one, other, least):
        """The table of two sorts is published, its small cells hidden well enough; the publication is told."""
        return self.do("publish", (title, one, other, least))

    def titles(self):
        """The titles of all surveys, in order."""
        return list(self.surveys)

    def plan_of(self, title):
        """The survey's plan."""
        return survey_by(self.surveys, title).plan

    def rules_of(self, title):
        """The survey's rules."""
        return list(survey_by(self.surveys, title).rules)

    def book_of(self, title):
        """The survey's records as they are now."""
        return list(survey_by(self.surveys, title).book)

    def faults(self, title):
        """The numbers of the records that are barred or not whole, rising."""
        return faults_of(survey_by(self.surveys, title))

    def out(self, title):
        """The release of all that is out of the survey."""
        return own_release(survey_by(self.surveys, title).release)

    def published(self, title):
        """All publications of the survey, each with its vintage."""
        vintages = vintages_of(survey_by(self.surveys, title))
        return [(survey.age, own_publication(each)) for survey in vintages for each in survey.shown]

    def vintage(self, title):
        """The number of the survey's vintage now."""
        return survey_by(self.surveys, title).age

    def revised(self, title, figure):
        """The figure's worth in the book of each vintage of the survey."""
        now = survey_by(self.surveys, title)
        need_figure(now.plan, figure)
        return [worth_in(survey.book, figure) for survey in vintages_of(now)]

    def exchange(self, word, taken, kept):
        """Take the last surveys of the one list, and keep those there are now in the other one."""
        if len(taken) == 0:
            self.calls.append((word, REFUSED))
            raise NoBack(f"there is nothing for {word}")
        kept.append(self.surveys)
        self.surveys = taken.pop()
        self.calls.append((word, DONE))

    def back(self):
        """The last deed that wasn't taken back is taken back."""
        self.exchange("back", self.behind, self.undone)

    def again(self):
        """The last deed taken back is done again."""
        self.exchange("again", self.undone, self.behind)

    def deeds(self, rows, *, on=False):
        """Do a list of deeds as one; where one is refused, none of them, or (on) those ahead of it."""
        surveys = self.surveys
        told = []
        self.calls.append(("deeds", "begun"))
        try:
            for at, row in enumerate(rows):
                if not is_deed(row):
                    raise NoDeed(at)
                told.append(self.tried(row[0], row[1:]))
        except CountError:
            if not on:
                self.surveys = surveys
            elif len(told) > 0:
                self.settle(surveys)
            self.calls.append(("deeds", REFUSED))
            raise
        if len(told) > 0:
            self.settle(surveys)
        self.calls.append(("deeds", DONE))
        return told

    def log(self):
        """Each call that was to change the house, in order, with its ending."""
        return list(self.calls)
