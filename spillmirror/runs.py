"""Runs of one tank over a row of days (DOC.md, stage 1)."""

from spillmirror.errors import NoCap, NoDays, NoStart


def is_whole(thing):
    """Tell whether thing is a whole number: an int that is no truth."""
    return isinstance(thing, int) and not isinstance(thing, bool)


def is_amount(thing):
    """Tell whether thing is a whole number from 0 on."""
    return is_whole(thing) and thing >= 0


def is_pair(thing):
    """Tell whether thing is a tuple of two whole numbers."""
    return isinstance(thing, tuple) and len(thing) == 2 and is_whole(thing[0]) and is_whole(thing[1])


def is_days(thing):
    """Tell whether thing is a row of days: a list of whole numbers."""
    return isinstance(thing, list) and all(is_whole(day) for day in thing)


def need_days(days):
    """Refuse what is no row of days."""
    if not is_days(days):
        raise NoDays()


def need_cap(cap):
    """Refuse what is no cap."""
    if not is_amount(cap):
        raise NoCap()


def need_start(start, cap):
    """Refuse what is no start of a tank of that cap."""
    if not is_amount(start) or start > cap:
        raise NoStart()


def need_tank(days, cap, start):
    """Refuse days, a cap or a start that are none, in this order."""
    need_days(days)
    need_cap(cap)
    need_start(start, cap)


def day_done(content, day, cap):
    """Tell (content, spilled, lacking) of a tank of that cap behind one day."""
    level = content + day
    return min(max(level, 0), cap), max(level - cap, 0), max(-level, 0)


def run(days, cap, start):
    """Tell (contents, spilled, lacking) day by day; contents begins with the start."""
    need_tank(days, cap, start)
    contents = [start]
    spilled = []
    lacking = []
    for day in days:
        content, over, short = day_done(contents[-1], day, cap)
        contents.append(content)
        spilled.append(over)
        lacking.append(short)
    return contents, spilled, lacking


def totals(days, cap, start):
    """Tell (end, spilled, lacking) of the whole run."""
    contents, spilled, lacking = run(days, cap, start)
    return contents[-1], sum(spilled), sum(lacking)
