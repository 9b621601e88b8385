"""What the tests work out by listing all there is, and how they count steps."""

import itertools
import os
import sys

import spillmirror

PACKAGE = os.path.dirname(os.path.abspath(spillmirror.__file__))

OTHERS = [True, False, "", "1", b"1", None, 1.0, (), (1,), [], [1], {}, {1: 2}, {1}, object(), int, len]
"""Things that are no whole numbers."""


def lot_of(held):
    """The lot of those days of which held is true."""
    lot = []
    for at, flag in enumerate(held):
        if flag and at and held[at - 1]:
            lot[-1] = (lot[-1][0], at)
        elif flag:
            lot.append((at, at))
    return lot


def all_lots(many_days):
    """All lots of so many days, in rising order."""
    return sorted(lot_of(held) for held in itertools.product((False, True), repeat=many_days))


LOTS = [all_lots(many_days) for many_days in range(9)]


def value(days, lot):
    return sum(days[at] for first, last in lot for at in range(first, last + 1))


def best_lots(days, many):
    """(the greatest worth, the lots of at most many stretches that have it, in rising order)."""
    lots = [lot for lot in LOTS[len(days)] if len(lot) <= many]
    top = max(value(days, lot) for lot in lots)
    return top, [lot for lot in lots if value(days, lot) == top]


def small_rows():
    """Rows of few days of small numbers, many of them 0."""
    for many_days in range(6):
        yield from map(list, itertools.product((-2, -1, 0, 1, 2), repeat=many_days))
    for many_days in (6, 7):
        yield from map(list, itertools.product((-1, 0, 1), repeat=many_days))
    yield from map(list, itertools.product((-5, -3, 0, 4), repeat=4))
    yield from map(list, itertools.product((-5, -3, 2, 4), repeat=5))


class Numbers:
    """A row of numbers that looks like chance, the same each time."""

    def __init__(self, seed):
        self.state = seed

    def below(self, limit):
        self.state = (self.state * 6364136223846793005 + 1442695040888963407) & (2 ** 64 - 1)
        return (self.state >> 20) % limit

    def row(self, many_days, greatest):
        return [self.below(2 * greatest + 1) - greatest for _ in range(many_days)]


def exact_bests(days):
    """The greatest worth of at most 0, 1, .. stretches, day by day, for rows too long to list."""
    many = (len(days) + 1) // 2
    low = None
    free = [0] * (many + 1)
    held = [low] * (many + 1)
    for day in days:
        now = [low] * (many + 1)
        for count in range(many + 1):
            ahead = [] if held[count] is low else [held[count]]
            if count:
                ahead.append(free[count - 1])
            now[count] = max(ahead) + day if ahead else low
        free = [f if h is low else max(f, h) for f, h in zip(free, held)]
        held = now
    tops = [f if h is low else max(f, h) for f, h in zip(free, held)]
    for count in range(1, many + 1):
        tops[count] = max(tops[count], tops[count - 1])
    return tops


def steps_of(function, *arguments):
    """(how many lines of the package are run, what the function tells)."""
    steps = [0]

    def line(frame, event, _):
        if event == "line":
            steps[0] += 1
        return line

    def call(frame, event, _):
        return line if frame.f_code.co_filename.startswith(PACKAGE) else None

    before = sys.gettrace()
    sys.settrace(call)
    try:
        told = function(*arguments)
    finally:
        sys.settrace(before)
    return steps[0], told
