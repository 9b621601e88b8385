"""What the tests ask of every function: what it refuses, names, lists of one's own, and steps."""

import copy
import itertools

from listing import OTHERS, steps_of
from spillmirror.errors import NoBounds, NoCap, NoCore, NoDays, NoFive, NoLooks, NoMany, NoStart

BIG = 10 ** 15 - 1

NO_AMOUNTS = OTHERS + [-1, -BIG]
"""Things that are no whole numbers from 0 on."""

NO_LISTS = [(), (1, 2), None, "12", "", b"12", 5, 0, True, {}, {1: 2}, {1}, range(3), iter([1]), object(), list]
NO_DAYS = NO_LISTS + [[1, thing] for thing in OTHERS] + [[thing, 1] for thing in OTHERS] + [[thing] for thing in OTHERS]

DAYS = ("days", [3, 4, -1, -9, 2], NoDays, NO_DAYS)
CAP = ("cap", 5, NoCap, NO_AMOUNTS)
MANY = ("many", 1, NoMany, NO_AMOUNTS)
START = ("start", 2, NoStart, NO_AMOUNTS + [6, BIG])

NO_FIVES = [
    None, True, 0, "", "1/0/0/0/0", b"10000", object(), {}, {1, 2}, range(5), (), (0,), (0, 0, 0, 0), (0, 0, 0, 0, 0, 0),
    [0, 0, 0, 0, 5], [0, 0, 0, 0, 0], ((0, 0, 0, 0, 5),), {0: 0, 1: 0, 2: 0, 3: 0, 4: 0},
    # low and high from 0 to the cap, low no greater than high
    (0, 0, 0, -1, 5), (0, 0, 0, -1, -1), (0, 0, 0, 0, 6), (0, 0, 0, 6, 6), (-1, 0, 0, 6, 6), (0, 0, 0, 3, 2), (0, 0, 0, 5, 0),
    # spilled and lacking from 0 on
    (0, -1, 0, 2, 2), (0, 0, -1, 2, 2), (0, -1, -1, 2, 2), (0, -1, -1, 0, 5),
    # the ends from 0 to the cap
    (1, 0, 0, 0, 5), (-1, 0, 0, 0, 5), (4, 0, 0, 0, 2), (-3, 0, 0, 2, 5), (6, 0, 0, 0, 0), (-1, 0, 0, 0, 0),
    (0, 3, 0, 2, 2), (0, 0, 4, 2, 2), (4, 0, 0, 2, 2), (-3, 0, 0, 2, 2), (BIG, 0, 0, 2, 2), (BIG, BIG, 3, 3, 3),
    # where low is less than high nothing is spilled or lacking
    (0, 1, 1, 0, 5), (0, 1, 1, 2, 3), (1, 1, 0, 0, 5), (-1, 0, 1, 0, 5), (1, 1, 0, 2, 3),
] + [(0, 0, 0, 0, 5)[:at] + (thing,) + (0, 0, 0, 0, 5)[at + 1:] for at in range(5) for thing in OTHERS]
"""Things that are no fives of the cap 5."""

FIVE = ("five", (1, 0, 0, 1, 4), NoFive, NO_FIVES)

NO_PAIRS = [(), (1,), (1, 2, 3), ((1, 2),), [1, 2], [], 1, "12", "1..2", "1:2", b"12", None, {1: 2}, {1, 2}, range(2)]
NO_PAIRS += [pair for thing in OTHERS for pair in ((thing, 1), (1, thing), (thing, thing))]
"""Things that are no tuples of two whole numbers."""


def lists_with(bads, *goods):
    """Lists that hold a bad thing alone, and ahead of, behind, and between good ones."""
    return [row for bad in bads for row in ([bad], [bad, *goods], [*goods, bad], [*goods, bad, *goods])]


NO_BOUNDS = NO_LISTS + lists_with(NO_PAIRS + [(1, 0), (0, -1), (BIG, -BIG)], (0, 2), (-1, -1))
BOUNDS = ("bounds", [(0, 2), (-1, 1), (-5, -5)], NoBounds, NO_BOUNDS)

NO_LOOKS = NO_LISTS + lists_with(NO_PAIRS + [(-1, 0), (0, -1), (-1, -1), (-BIG, 1), (1, -BIG)], (2, 1), (0, 3))
"""Things that are no looks, into whatever tank."""

LOOKS = ("looks", [(2, 1), (0, 0)], NoLooks, NO_LOOKS + lists_with([(4, 0), (4, 9), (BIG, 0)], (2, 1), (0, 3)))
"""Looks into a tank over those three days."""

NO_CORES = [
    None, True, 0, "", " | ", "+5 | 1", b"", object(), {}, {1, 2}, range(2), [], (), ([],), ([], [], []), [[], []], [[5], []],
    # other kinds of rests and sizes
    ((), []), ([], ()), ((5,), []), ([5], (1,)), (5, []), ([5], 1), (None, []), ([], None), ("", ""), ({}, {}), ([5], {}),
    # rests: a move of 0, moves that do not go by turns, one within that is no greater than both beside it
    ([0], []), ([5, 0], []), ([0, -5], []), ([5, 0, -3], []), ([1, 2], []), ([-1, -2], []), ([3, -5, -2], []),
    ([5, -3, 5], []), ([5, -5, 5], []), ([-5, 5, -6], []), ([1, -2, 3, -2, 3], []), ([3, -3, 3, -3], []),
    ([4, -4, 4], [1]), ([1, -5, 5, -5, 1], []),
    # sizes: below 1, not falling, greater than the rest's greatest move
    ([5], [0]), ([5], [-1]), ([5], [2, 0]), ([5], [1, 2]), ([5], [3, 2, 3]), ([5], [6]), ([-5], [6, 1]), ([-5], [BIG]),
    ([], [1]), ([], [0]), ([2, -4, 3], [5]), ([2, -4, 3], [4, 4, 1, 2]),
]
NO_CORES += [one for thing in OTHERS for one in (([thing], []), ([5, thing], []), ([5], [thing]), ([5], [3, thing]))]
NO_CORES += [one for thing in OTHERS for one in ((thing, [1]), ([5], thing))
             if not isinstance(thing, list)]
CORE = ("core", ([2, -7, 4], [6, 6, 1]), NoCore, NO_CORES)


def refused(case, error, function, *arguments, **named):
    """The error that is raised, of that class alone."""
    with case.subTest(function=function.__name__, arguments=arguments, named=named):
        with case.assertRaises(Exception) as caught:
            function(*arguments, **named)
        case.assertIs(type(caught.exception), error)
        return caught.exception


def check_refusals(case, function, *places):
    """What is bad is refused in each place alone, and of several the first one, by places and by names.

    A place is told for each argument: (name, a good one, the error, bad ones).
    """
    goods = [good for _, good, _, _ in places]
    function(*goods)
    for at, (_, _, error, bads) in enumerate(places):
        for bad in bads:
            refused(case, error, function, *goods[:at], bad, *goods[at + 1:])
    for flags in itertools.product((False, True), repeat=len(places)):
        if sum(flags) < 2:
            continue
        error = places[flags.index(True)][2]
        for turn in range(6):
            arguments = {name: bads[turn % len(bads)] if flag else good
                         for flag, (name, good, _, bads) in zip(flags, places)}
            refused(case, error, function, *arguments.values())
            refused(case, error, function, **arguments)


def check_names(case, function, **named):
    """Arguments are handed in by their names in any order."""
    turned = {name: named[name] for name in reversed(list(named))}
    case.assertEqual(function(**turned), function(*named.values()))


def lists_in(thing):
    """All lists within a thing."""
    parts = thing if isinstance(thing, (list, tuple)) else []
    return ([thing] if isinstance(thing, list) else []) + [one for part in parts for one in lists_in(part)]


def check_own(case, function, *arguments):
    """What is handed in stays, and what is told is new and the asker's own."""
    handed = copy.deepcopy(arguments)
    first = function(*arguments)
    kept = copy.deepcopy(first)
    second = function(*arguments)
    case.assertEqual(second, kept)
    lists = lists_in(first) + lists_in(second) + lists_in(arguments)
    case.assertEqual(len({id(one) for one in lists}), len(lists), function)
    for one in lists_in(first):
        one.reverse()
        one.append("changed")
    case.assertEqual(arguments, handed)
    case.assertEqual(second, kept)
    case.assertEqual(function(*arguments), kept)
    for one in lists_in(arguments):
        one.clear()
    case.assertEqual(second, kept)


def scaled(thing, factor):
    """A thing with each number within it so many times as great."""
    if isinstance(thing, (list, tuple)):
        return type(thing)(scaled(part, factor) for part in thing)
    return thing * factor


def check_soon(case, most, function, *arguments, same=()):
    """At most so many steps, and just as many where the numbers are great.

    Arguments whose places are in `same` are no amounts: they stay.
    """
    steps, told = steps_of(function, *arguments)
    case.assertLess(steps, most, function)
    great = [one if at in same else scaled(one, 10 ** 12) for at, one in enumerate(arguments)]
    case.assertEqual(steps_of(function, *great)[0], steps, function)
    return told
