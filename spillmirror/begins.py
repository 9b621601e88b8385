"""Tanks from any start: what is spilled and what is lacking, shown by lots (DOC.md, stage 4)."""

from spillmirror.mirror import lot_of_times
from spillmirror.runs import run


def most_spilled(days, cap, start):
    """Tell (spilled, lot): what is spilled from that start, and a lot that shows it."""
    _, spilled, lacking = run(days, cap, start)
    return sum(spilled), lot_of_times(spilled, lacking)


def most_lacking(days, cap, start):
    """Tell (lacking, lot): what is lacking from that start, and a lot that shows it."""
    _, spilled, lacking = run(days, cap, start)
    return sum(lacking), lot_of_times(lacking, spilled)
