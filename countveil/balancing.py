"""Lines balanced at the least cost: from each line is to go what comes to it.

Lines are numbered from 0. A WAY between two is a tuple (begin, end, low, cost): low goes from the one to the other,
or one more, at that cost, which may be below 0; just low, where cost is None. UPS are a list with 1 for each way that
takes one more, 0 for each other one.
"""


def come_over(many, ways, ups):
    """For each of so many lines how much more comes to it than goes from it."""
    over = [0] * many
    for (begin, end, low, cost), up in zip(ways, ups):
        over[end] += low + up
        over[begin] -= low + up
    return over


def turns(ways, ups):
    """Tuples (n, begin, end, cost): way n taken otherwise takes one more from line to line, at that cost."""
    found = []
    for n, (begin, end, low, cost) in enumerate(ways):
        if cost is not None:
            found.append((n, begin, end, cost) if ups[n] == 0 else (n, end, begin, -cost))
    return found


def least_costs(chosen, far):
    """What it costs at least to come to each line by turns, and the last turn to it, as two lists.

    far has what it costs at first, None at a line to which nothing comes. Where turns came back to their begin at
    a cost below 0, there would be no least.
    """
    last = [None] * len(far)
    left = True
    while left:
        left = False
        for turn in chosen:
            n, begin, end, cost = turn
            if far[begin] is not None and (far[end] is None or far[begin] + cost < far[end]):
                far = [*far[:end], far[begin] + cost, *far[end + 1:]]
                last[end] = turn
                left = True
    return (far, last)


def with_way_turned(ups, last, begin, end):
    """The ups with all turns on the way from begin to end done."""
    done = list(ups)
    line = end
    while line != begin:
        n, line, after, cost = last[line]
        done[n] = 1 - done[n]
    return done


def least_ups(many, ways):
    """Ups by which so many lines are balanced, and no others cost less; known is that there are some."""
    # No turn costs less than 0 at first, and none comes to do so by turns on the cheapest way.
    ups = [int(cost is not None and cost < 0) for begin, end, low, cost in ways]
    over = come_over(many, ways, ups)
    while max(over) > 0:
        begin = over.index(max(over))
        far, last = least_costs(turns(ways, ups), [0 if line == begin else None for line in range(many)])
        lacking = [line for line in range(many) if over[line] < 0 and far[line] is not None]
        ups = with_way_turned(ups, last, begin, lacking[0])
        over = come_over(many, ways, ups)
    return ups


def line_costs(many, ways, ups):
    """For each of so many lines a number, so that no turn from one to another costs less than they differ."""
    return least_costs(turns(ways, ups), [0] * many)[0]
