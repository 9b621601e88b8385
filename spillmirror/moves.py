"""Moves of a row of days, and the rises of its bests, which they tell."""


def moves_of(days):
    """Tell the sums of days next to one another of one sign, days of 0 left out."""
    moves = []
    for day in days:
        if day != 0 and moves and (moves[-1] > 0) == (day > 0):
            moves[-1] += day
        elif day != 0:
            moves.append(day)
    return moves


def rest_and_sizes(days):
    """Tell (rest, sizes) of the moves of days, sizes greatest first.

    A move no greater than either of its neighbours is taken out: the three
    become one move, and its size is noted; the rest has no such move left.
    """
    rest = []
    sizes = []
    for move in moves_of(days):
        rest.append(move)
        # Only the last three can have changed, so that all ahead stays done.
        while len(rest) > 2 and abs(rest[-2]) <= min(abs(rest[-3]), abs(rest[-1])):
            sizes.append(abs(rest[-2]))
            rest[-3:] = [sum(rest[-3:])]
    return rest, sorted(sizes, reverse=True)


def rises_of(days):
    """Tell by how much each of the bests of days is greater than the one ahead.

    They are the sizes and the poured moves of the rest together (DOC.md, 24):
    to leave a size out of a stretch gains just as much as to take it in.
    """
    rest, sizes = rest_and_sizes(days)
    return sorted(sizes + [move for move in rest if move > 0], reverse=True)
