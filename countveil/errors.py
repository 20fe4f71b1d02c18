"""Every refusal of the program, each straight under CountError."""


class CountError(ValueError):
    """Any refusal."""


class Clash(CountError):
    """What was published is of no numbers at all."""


class NoBack(CountError):
    """There is no deed to take back, or to do again."""


class NoBase(CountError):
    """What should be a base is none."""


class NoBook(CountError):
    """What should be a book of a plan is none."""


class NoCodes(CountError):
    """What should be a code, or None, for each sort is not."""


class NoCosts(CountError):
    """What should be costs are none."""


class NoFigure(CountError):
    """What should be a figure is none."""


class NoGuards(CountError):
    """What should be guards of cells are none."""


class NoHistory(CountError):
    """What should be a history of a plan is none."""


class NoKnown(CountError):
    """What should be known totals are none."""


class NoLeast(CountError):
    """What should be a least worth of told cells is none."""


class NoLine(CountError):
    """What was said is no line that the desk knows."""


class NoLots(CountError):
    """What should be lots of rows or columns are none."""


class NoMarket(CountError):
    """What should be a market is none."""


class NoNumber(CountError):
    """What should be a number of something is none."""


class NoPattern(CountError):
    """What should be a pattern is none, or there is none."""


class NoPlace(CountError):
    """What should be a place is none."""


class NoPlan(CountError):
    """What should be a plan is none."""


class NoRecord(CountError):
    """What should be a record of a plan is none."""


class NoRelease(CountError):
    """What should be a release is none."""


class NoRight(CountError):
    """No full record is right by the rules."""


class NoRules(CountError):
    """What should be rules of a plan are none."""


class NoSeries(CountError):
    """What should be a series is none."""


class NoSort(CountError):
    """What should be the number of a sort is none, or one twice."""


class NoStep(CountError):
    """What should be a number of steps is none."""


class NoTable(CountError):
    """What should be a table is none."""


class NoTables(CountError):
    """What should be tables of the same labels are none."""


class NoTime(CountError):
    """What should be the number of a time is none."""


class NoTitle(CountError):
    """What should be a title is none, or not one that fits here."""


class NoWay(CountError):
    """What should be a way is none."""


class NoWeights(CountError):
    """What should be weights of a book are none."""


class NoWhat(CountError):
    """What is to be counted is neither told word."""


class NoYear(CountError):
    """What should be a year of a series is none."""


class TooDeep(CountError):
    """Too many things lie within one another."""


class TooGreat(CountError):
    """A number, or a size, would be too great."""


class TooMany(CountError):
    """There would be too many."""


class Fixed(CountError):
    """A barred figure, of the told places, would be fixed by all that is out."""

    def __init__(self, places):
        CountError.__init__(self, f"fixed: {places}")
        self.places = places


class NoDeed(CountError):
    """What stands at a place of a list of deeds is none."""

    def __init__(self, at):
        CountError.__init__(self, f"no deed at {at}")
        self.at = at


class NoSheet(CountError):
    """What should be a sheet is none; wrong is what is wrong with it."""

    def __init__(self, wrong):
        CountError.__init__(self, f"no sheet: {wrong}")
        self.wrong = wrong


class NoText(CountError):
    """A text writes nothing: its line of number row breaks off behind so many signs."""

    def __init__(self, row, at):
        CountError.__init__(self, f"line {row} breaks off at {at}")
        self.row = row
        self.at = at


class NotClean(CountError):
    """The record of the told number is not right, or not full."""

    def __init__(self, number):
        CountError.__init__(self, f"not clean: record {number}")
        self.number = number
