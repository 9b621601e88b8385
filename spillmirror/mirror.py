"""What tanks of every cap spill, and the bests: each the other's mirror (DOC.md, stage 3)."""

from spillmirror.errors import NoMirror, NoMost, TooMany
from spillmirror.lots import best, bests, need_many, sums_of
from spillmirror.moves import rises_of
from spillmirror.runs import is_amount, is_days, need_cap, need_days, run, totals

MOST_TOLD = 1000


def spilled(days, cap):
    """Tell what a tank of that cap, empty at first, spills."""
    return totals(days, cap, 0)[1]


def lot_of_times(marks, partings):
    """Tell the lot of a run: a stretch for each time between two partings that has a mark.

    Marks and partings are told day by day, 0 where there is none. A stretch
    goes from behind the last parting ahead (or from the first day) to the last
    mark of its time.
    """
    lot = []
    first = 0
    for at, mark in enumerate(marks):
        if partings[at] > 0:
            first = at + 1
        if mark > 0:
            # A later mark of the same time makes its stretch longer.
            if lot and lot[-1][0] == first:
                lot.pop()
            lot.append((first, at))
    return lot


def spill_lot(days, cap):
    """Tell a lot whose worth less its stretches times the cap is what is spilled."""
    _, over, short = run(days, cap, 0)
    return lot_of_times(over, short)


def need_steps(steps):
    """Refuse steps that are not of one at least each, or of which one is greater than the one ahead."""
    if any(step < 1 for step in steps) or steps != sorted(steps, reverse=True):
        raise NoMirror()


def falls_of_spills(told):
    """Tell by how much each of the spills is less than the one ahead; refuse what is no such list."""
    if not is_days(told) or told[-1:] != [0]:
        raise NoMirror()
    falls = [more - less for more, less in zip(told, told[1:])]
    need_steps(falls)
    return falls


def rises_of_bests(told):
    """Tell by how much each of the bests is greater than the one ahead; refuse what is no such list."""
    if not is_days(told) or told[:1] != [0]:
        raise NoMirror()
    rises = [more - less for less, more in zip(told, told[1:])]
    need_steps(rises)
    return rises


def turned(steps):
    """Tell how many of the steps are 1 or more, how many are 2 or more, .. up to the greatest step.

    The rises of the bests turn into the falls of the spills, and these into
    those. Refused is what would make a list of too many numbers.
    """
    greatest = steps[0] if steps else 0
    # The list that has these steps has one number more.
    if greatest + 1 > MOST_TOLD:
        raise TooMany(MOST_TOLD)
    many = len(steps)
    told = []
    for size in range(1, greatest + 1):
        while steps[many - 1] < size:
            many -= 1
        told.append(many)
    return told


def spills(days):
    """Tell the list of what tanks of the caps 0, 1, .. spill, up to the first 0."""
    return spills_of(bests(days))


def bests_of(told):
    """Tell the bests of the days that have these spills."""
    return sums_of(turned(falls_of_spills(told)))


def spills_of(told):
    """Tell the spills of the days that have these bests."""
    # Spills are summed from their end, where they are 0.
    falls = turned(rises_of_bests(told))
    return sums_of(falls[::-1])[::-1]


def days_of(told):
    """Tell a row of days that has these bests: its rises, each two far apart."""
    days = []
    for rise in rises_of_bests(told):
        if days:
            days.append(-1 - told[-1])
        days.append(rise)
    return days


def need_most(most):
    """Refuse what is no amount that may be spilled at most."""
    if not is_amount(most):
        raise NoMost()


def cap_for(days, most):
    """Tell the least cap by which at most so much is spilled."""
    need_days(days)
    need_most(most)
    # A cap does where no number of stretches shows that more is spilled:
    # each asks for what it has beyond most, in even shares, rounded up.
    shares = [(top - most + many - 1) // many for many, top in enumerate(bests(days)) if many > 0]
    return max([0] + shares)


def shows(days, cap, many):
    """Tell whether the run of the tank of that cap shows how great best(days, many) is."""
    need_days(days)
    need_cap(cap)
    need_many(many)
    return spilled(days, cap) + many * cap == best(days, many)


def caps_that_show(days, many):
    """Tell (least, greatest) of the caps that show best(days, many); greatest is None of 0 stretches."""
    need_days(days)
    need_many(many)
    # Behind the last rise each further stretch gains 0.
    rises = [None] + rises_of(days) + [0, 0]
    at = min(many, len(rises) - 2)
    return rises[at + 1], rises[at]
