"""Vessels one behind another: tanks within tanks (DOC.md, stage 6)."""

from spillmirror.errors import NoCaps
from spillmirror.runs import day_done, is_amount, need_days

MOST_VESSELS = 12


def need_caps(caps):
    """Refuse what is no list of caps of vessels."""
    if not isinstance(caps, list) or not 1 <= len(caps) <= MOST_VESSELS:
        raise NoCaps()
    if not all(is_amount(cap) for cap in caps):
        raise NoCaps()


def vessels_done(contents, caps, day):
    """Tell (contents, over, short) of vessels behind one day."""
    held = []
    over = []
    short = []
    left = day
    for content, cap in zip(contents, caps):
        level, more, less = day_done(content, left, cap)
        held.append(level)
        over.append(more)
        short.append(less)
        # What a vessel spills is poured into the next, what it lacks is drawn from it.
        left = more - less
    return held, over, short


def vessels(days, caps):
    """Tell, day by day, (contents, over, short) of vessels that are empty at first."""
    need_days(days)
    need_caps(caps)
    contents = [0] * len(caps)
    told = []
    for day in days:
        told.append(vessels_done(contents, caps, day))
        contents = told[-1][0]
    return told
