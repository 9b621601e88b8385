"""The five numbers of what days do to a tank of a cap (DOC.md, stage 5).

A five is a tuple (sum, spilled, lacking, low, high).
"""

from spillmirror.errors import NoFive
from spillmirror.runs import is_whole, need_cap, need_start, totals


def gain_of(five):
    """Tell by how much the end is above a start from low to high."""
    return five[0] + five[2] - five[1]


def is_some_five(thing):
    """Tell whether thing is a five that some days have, of some cap."""
    if not isinstance(thing, tuple) or len(thing) != 5 or not all(is_whole(part) for part in thing):
        return False
    _, spilled, lacking, low, high = thing
    if spilled < 0 or lacking < 0 or not 0 <= low <= high or low + gain_of(thing) < 0:
        return False
    return low == high or spilled == lacking == 0


def is_five(cap, thing):
    """Tell whether thing is a five that some days have, of that cap."""
    need_cap(cap)
    return is_some_five(thing) and max(thing[4], thing[4] + gain_of(thing)) <= cap


def need_five(cap, five):
    """Refuse what is no cap, and what is no five of that cap."""
    if not is_five(cap, five):
        raise NoFive()


def passed(five, start):
    """Tell (end, spilled, lacking) behind the days of a five, from that start."""
    _, spilled, lacking, low, high = five
    over = max(start - high, 0)
    short = max(low - start, 0)
    return start - over + short + gain_of(five), spilled + over, lacking + short


def five_between(total, cap, empty, full):
    """Tell the five of days by (end, spilled, lacking) from an empty tank and from a full one.

    What is spilled from low is spilled from an empty tank, too, which only
    lacks more by low; what is lacking from high is lacking from a full one,
    too, which only spills more by what the cap is above high.
    """
    spilled = empty[1]
    lacking = full[2]
    return total, spilled, lacking, empty[2] - lacking, cap - (full[1] - spilled)


def five(days, cap):
    """Tell the five of days, of that cap."""
    empty = totals(days, cap, 0)
    return five_between(sum(days), cap, empty, totals(days, cap, cap))


def led(cap, five, start):
    """Tell (end, spilled, lacking) of a tank from that start, by a five."""
    need_five(cap, five)
    need_start(start, cap)
    return passed(five, start)


def passed_both(five, other, start):
    """Tell (end, spilled, lacking) behind the days of a five and those of another behind them."""
    middle, spilled, lacking = passed(five, start)
    end, over, short = passed(other, middle)
    return end, spilled + over, lacking + short


def joined(cap, five, other):
    """Tell the five of the days of a five and those of another behind them."""
    need_five(cap, five)
    need_five(cap, other)
    empty = passed_both(five, other, 0)
    full = passed_both(five, other, cap)
    return five_between(five[0] + other[0], cap, empty, full)


def few_days(cap, five):
    """Tell a row of at most five days that has this five."""
    need_five(cap, five)
    total, spilled, lacking, low, high = five
    if low < high:
        return [-low, low + cap - high, total + high - cap]
    return [-low, cap, spilled, -cap - lacking, low + gain_of(five)]


def ends_from(days, cap):
    """Tell (least, greatest) of the ends from all starts."""
    # The end never falls where the start rises.
    return totals(days, cap, 0)[0], totals(days, cap, cap)[0]
