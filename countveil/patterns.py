"""Safe patterns: which cells to hide, so that the span of each guarded one stays wide enough."""

from countveil.errors import NoGuards, TooGreat
from countveil.kinds import is_list_of_pairs, is_tuple_of, is_whole
from countveil.spans import at_place, highest_world, is_place, lowest_world, need_sheet, span_at, wrong_in_world
from countveil.tables import all_places

MOST_GUARDS = 8
MOST_CELLS_FOR_FEWEST = 16


def is_guard(cells, thing):
    """Whether it is a guard of the cells."""
    if not is_tuple_of(thing, 4) or not is_place(cells, thing[:2]):
        return False
    below, above = thing[2:]
    if not is_whole(below) or not is_whole(above):
        return False
    return below >= 0 and above >= 0 and below + above > 0


def are_guards(cells, thing):
    """Whether they are guards of the cells."""
    if not isinstance(thing, list) or len(thing) > MOST_GUARDS or not all(is_guard(cells, guard) for guard in thing):
        return False
    return all(one[:2] < other[:2] for one, other in zip(thing, thing[1:]))


def need_guards(sheet, guards):
    """Refuse what is no sheet, then what are no guards of its cells."""
    need_sheet(sheet)
    if not are_guards(sheet[0], guards):
        raise NoGuards("these are no guards of the cells")


def first_told(sheet, guards):
    """The number of the first guard whose place isn't hidden; None where there is none."""
    for n, guard in enumerate(guards):
        if guard[:2] not in sheet[1]:
            return n
    return None


def low_asked(sheet, guard):
    """The number at which a guard asks its span to begin, or lower: the cell's worth less below."""
    return at_place(sheet[0], guard[:2]) - guard[2]


def high_asked(sheet, guard):
    """The number at which a guard asks its span to end, or higher: the cell's worth and above."""
    return at_place(sheet[0], guard[:2]) + guard[3]


def wrong_in_span(sheet, n, guard):
    """What safe_wrong tells of the n-th guard, whose place is hidden."""
    least, greatest = span_at(sheet, guard[:2])
    if least > low_asked(sheet, guard):
        return ("low", n, least)
    if greatest < high_asked(sheet, guard):
        return ("high", n, greatest)
    return None


def safe_wrong(sheet, guards):
    """None where the sheet is safe for the guards, else the first that is wrong with it."""
    need_guards(sheet, guards)
    told = first_told(sheet, guards)
    if told is not None:
        return ("told", told)
    for n, guard in enumerate(guards):
        wrong = wrong_in_span(sheet, n, guard)
        if wrong is not None:
            return wrong
    return None


def low_world_for(sheet, guard):
    """A world as low at the guard's place as it asks, or as may be."""
    return lowest_world(sheet, guard[:2], guard[2])


def high_world_for(sheet, guard):
    """A world as high at the guard's place as it asks, or as may be."""
    return highest_world(sheet, guard[:2], guard[3])


def is_low_enough(sheet, guard, world):
    """Whether the world has as little at the guard's place as it asks."""
    return at_place(world, guard[:2]) <= low_asked(sheet, guard)


def is_high_enough(sheet, guard, world):
    """Whether the world has as much at the guard's place as it asks."""
    return at_place(world, guard[:2]) >= high_asked(sheet, guard)


def is_guarded(sheet, guard):
    """Whether the span of the guard's place, which is hidden, is as wide as it asks."""
    if not is_low_enough(sheet, guard, low_world_for(sheet, guard)):
        return False
    return is_high_enough(sheet, guard, high_world_for(sheet, guard))


def is_safe(sheet, guards):
    """Whether the sheet is safe for the guards."""
    return first_told(sheet, guards) is None and all(is_guarded(sheet, guard) for guard in guards)


def safe_paper(sheet, guards):
    """For each guard two worlds that show that its span is wide enough; None where the sheet isn't safe."""
    need_guards(sheet, guards)
    if not is_safe(sheet, guards):
        return None
    return [(low_world_for(sheet, guard), high_world_for(sheet, guard)) for guard in guards]


def wrong_in_worlds(sheet, n, guard, worlds):
    """What safe_judged tells of the two worlds of the n-th guard, whose place is hidden."""
    one, other = worlds
    wrong = wrong_in_world(sheet, one)
    if wrong is not None or not is_low_enough(sheet, guard, one):
        return ("low", n, wrong)
    wrong = wrong_in_world(sheet, other)
    if wrong is not None or not is_high_enough(sheet, guard, other):
        return ("high", n, wrong)
    return None


def safe_judged(sheet, guards, thing):
    """None where it is a safe paper of the sheet and the guards, else the first that is wrong with it."""
    need_guards(sheet, guards)
    told = first_told(sheet, guards)
    if told is not None:
        return ("told", told)
    if not is_list_of_pairs(thing) or len(thing) != len(guards):
        return ("paper",)
    for n, guard in enumerate(guards):
        wrong = wrong_in_worlds(sheet, n, guard, thing[n])
        if wrong is not None:
            return wrong
    return None


def least_pattern(cells, guards):
    """What pattern tells, of what is known not to be refused."""
    hidden = all_places(cells)
    if not is_safe((cells, hidden), guards):
        return None
    # A place that can't be left out can't be later, either: with fewer hidden ones spans are no wider.
    for place in all_places(cells):
        others = [other for other in hidden if other != place]
        if is_safe((cells, others), guards):
            hidden = others
    return hidden


def pattern(cells, guards):
    """A hidden list that is safe for the guards, but not with any one place left out; None where none is safe."""
    need_guards((cells, []), guards)
    return least_pattern(cells, guards)


def row_choices(cells, guards, i):
    """Each list of places of a row that has all its guards' places, but for those of one place alone."""
    guarded = [guard[:2] for guard in guards]
    grown = [[]]
    for k in range(len(cells[i])):
        left_out = [] if (i, k) in guarded else grown
        grown = [[*chosen, (i, k)] for chosen in grown] + left_out
    return [chosen for chosen in grown if len(chosen) != 1]


def has_lone_column(hidden):
    """Whether a column has just one hidden place."""
    columns = [k for i, k in hidden]
    return any(columns.count(k) == 1 for k in columns)


def hidden_lists(cells, guards, most):
    """The lists of at most so many places, among them each fewest one, the shorter ones first, in the order of lists.

    A place alone in its row or its column is worked out by the total: where it is guarded, the list isn't
    safe; else it is as safe without it. So none of the fewest lists has one.
    """
    grown = [[]]
    for i in range(len(cells)):
        choices = row_choices(cells, guards, i)
        grown = [[*ahead, *chosen] for ahead in grown for chosen in choices if len(ahead) + len(chosen) <= most]
    return sorted([hidden for hidden in grown if not has_lone_column(hidden)], key=lambda places: (len(places), places))


def fewest(cells, guards):
    """The first of all safe hidden lists with the fewest places; None where none is safe."""
    need_guards((cells, []), guards)
    if len(cells) * len(cells[0]) > MOST_CELLS_FOR_FEWEST:
        raise TooGreat("there are too many cells")
    found = least_pattern(cells, guards)
    if found is None:
        return None
    for hidden in hidden_lists(cells, guards, len(found)):
        if is_safe((cells, hidden), guards):
            return hidden
    return found
