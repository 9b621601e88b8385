"""What days do to tanks of every cap at once: a rest and sizes (DOC.md, stage 9).

A core is a tuple (rest, sizes).
"""

from spillmirror.errors import NoCore
from spillmirror.fives import five, passed
from spillmirror.moves import rest_and_sizes
from spillmirror.runs import is_days, need_days, totals


def core(days):
    """Tell (rest, sizes) of days, the sizes greatest first."""
    need_days(days)
    return rest_and_sizes(days)


def is_core(thing):
    """Tell whether thing is a core that some days have."""
    if not isinstance(thing, tuple) or len(thing) != 2 or not is_days(thing[0]) or not is_days(thing[1]):
        return False
    rest, sizes = thing
    # A rest is what is its own rest, with nothing taken out.
    if rest_and_sizes(rest) != (rest, []) or sizes != sorted(sizes, reverse=True):
        return False
    greatest = max([0] + [abs(move) for move in rest])
    return all(1 <= size <= greatest for size in sizes)


def need_core(core):
    """Refuse what is no core that some days have."""
    if not is_core(core):
        raise NoCore()


def beyond(sizes, cap):
    """Tell how much of the sizes together is above a cap: it is spilled, and it is lacking, once more."""
    return sum(size - cap for size in sizes if size > cap)


def by_core(core, cap, start):
    """Tell (end, spilled, lacking) of days by their core, as totals does by the days."""
    need_core(core)
    rest, sizes = core
    end, spilled, lacking = totals(rest, cap, start)
    more = beyond(sizes, cap)
    return end, spilled + more, lacking + more


def five_by_core(core, cap):
    """Tell the five of days, of that cap, by their core."""
    rest, sizes = core
    total, spilled, lacking, low, high = five(rest, cap)
    more = beyond(sizes, cap)
    return total, spilled + more, lacking + more, low, high


def just_above(edges):
    """Tell, rising, 0 and what is one above 0 and above each of the edges.

    Two functions that go straight from each of the edges to the next, and from
    0 to the first, part first at one of these numbers, if they ever part.
    """
    return [0] + sorted({edge + 1 for edge in [0] + edges})


def edges_of(core):
    """Tell the caps between which all that the days do goes straight with the cap: sizes of moves."""
    rest, sizes = core
    return sizes + [abs(move) for move in rest]


def first_start(told, other):
    """Tell the least start at which two fives of a cap do not the same; they are not alike."""
    starts = just_above([told[3], told[4], other[3], other[4]])
    return min([start for start in starts if passed(told, start) != passed(other, start)])


def apart(days, other):
    """Tell the least (cap, start) by which a tank tells two rows of days apart; None where none does."""
    mine = core(days)
    others = core(other)
    for cap in just_above(edges_of(mine) + edges_of(others)):
        told = five_by_core(mine, cap)
        against = five_by_core(others, cap)
        if told != against:
            return cap, first_start(told, against)
    return None
