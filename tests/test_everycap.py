"""Points 4, 23 and 24: every cap at once."""

import itertools
import unittest

from asking import (BIG, CAP, CORE, DAYS, NO_AMOUNTS, NO_CORES, NO_DAYS, check_names, check_own, check_refusals, check_soon,
                    refused, scaled)
from listing import Numbers, small_rows, steps_of
from spillmirror.errors import NoCap, NoCore, NoDays, NoStart
from spillmirror.everycap import apart, by_core, core
from spillmirror.fives import five
from spillmirror.lots import bests
from spillmirror.runs import totals


def moves_by_signs(days):
    """The sums of days next to one another of one sign, those of 0 left out."""
    parts = itertools.groupby([day for day in days if day], key=lambda day: day > 0)
    return tuple(sum(part) for _, part in parts)


def places(moves):
    """Where a move has one on either side and is no greater than either."""
    return [at for at in range(1, len(moves) - 1)
            if abs(moves[at]) <= abs(moves[at - 1]) and abs(moves[at]) <= abs(moves[at + 1])]


def taken_out(moves, at):
    return moves[:at - 1] + (sum(moves[at - 1:at + 2]),) + moves[at + 2:]


def cores_in_all_orders(moves, known):
    """All (rest, sizes) to which moves come, taken out in whatever order."""
    if moves not in known:
        found = set()
        for at in places(moves):
            for rest, sizes in cores_in_all_orders(taken_out(moves, at), known):
                found.add((rest, tuple(sorted(sizes + (abs(moves[at]),), reverse=True))))
        known[moves] = found if places(moves) else {(moves, ())}
    return known[moves]


def core_in_some_order(days, numbers):
    moves, sizes = moves_by_signs(days), []
    while found := places(moves):
        at = found[numbers.below(len(found))]
        sizes.append(abs(moves[at]))
        moves = taken_out(moves, at)
    return list(moves), sorted(sizes, reverse=True)


def long_rows():
    """Rows of many days, some of great numbers, one whose rest is as long as itself."""
    for seed, many_days, greatest in ((1, 200, 1), (2, 200, 9), (3, 200, BIG), (4, 60, 100), (5, 200, 10 ** 6)):
        yield Numbers(seed).row(many_days, greatest)
    yield [(-1) ** at * min(at + 1, 200 - at) for at in range(200)]
    yield [(-1) ** at * (BIG - 7 * abs(at - 77)) for at in range(200)]
    yield [5, -5] * 100
    yield [(-1) ** at * (200 - at) for at in range(200)]


def sizes_rise_and_fall(rest):
    """Strictly up to a greatest one, or two alike, and strictly down."""
    sizes = [abs(move) for move in rest]
    top = sizes.index(max(sizes)) if sizes else 0
    behind = top + 1 if sizes[top + 1:top + 2] == sizes[top:top + 1] else top
    return (all(one < other for one, other in zip(sizes[:top], sizes[1:top + 1]))
            and all(one > other for one, other in zip(sizes[behind:], sizes[behind + 1:])))


class Core(unittest.TestCase):
    def test_ordinary_rows(self):
        self.assertEqual(core([3, -1, 4, -5, 2]), ([6, -5, 2], [1]))
        self.assertEqual(core([1, 2, 0, -4, 0, -1, 0, 6]), ([3, -5, 6], []))
        self.assertEqual(core([9, -1, 2, -3, 9]), ([16], [3, 1]))
        self.assertEqual(core([5, -5, 5]), ([5], [5]))
        self.assertEqual(core([1, -5, 5, -1]), ([1, -5, 5, -1], []))
        self.assertEqual(core([-2, 1, -1, 2]), ([-2, 2], [1]))

    def test_the_edges(self):
        for days in ([], [0], [0, 0]):
            self.assertEqual(core(days), ([], []))
        self.assertEqual(core([0, 5, 0, 5, 0]), ([10], []))
        self.assertEqual(core([-5]), ([-5], []))
        self.assertEqual(core([5, 0, -5]), ([5, -5], []))
        self.assertEqual(core([BIG, -BIG] * 100), ([BIG, -BIG], [BIG] * 99))

    def test_all_small_rows_in_whatever_order(self):
        known = {}
        for days in small_rows():
            rest, sizes = core(days)
            self.assertEqual(cores_in_all_orders(moves_by_signs(days), known), {(tuple(rest), tuple(sizes))}, days)
            self.assertTrue(sizes_rise_and_fall(rest))

    def test_long_rows_in_whatever_order(self):
        for days in long_rows():
            told = core(days)
            self.assertTrue(sizes_rise_and_fall(told[0]))
            for seed in range(5):
                self.assertEqual(core_in_some_order(days, Numbers(seed)), told)

    def test_a_rest_is_its_own_core(self):
        for days in list(long_rows()) + [[3, -1, 4, -5, 2], []]:
            rest, _ = core(days)
            self.assertEqual(core(rest), (rest, []))

    def test_rises_of_the_bests(self):
        for days in list(small_rows())[::5] + list(long_rows()):
            rest, sizes = core(days)
            told = bests(days)
            rises = [more - less for less, more in zip(told, told[1:])]
            self.assertEqual(rises, sorted(sizes + [move for move in rest if move > 0], reverse=True))

    def test_refused(self):
        check_refusals(self, core, DAYS)

    def test_asked(self):
        check_names(self, core, days=[3, -1, 4])
        for days in ([3, -1, 4, -5, 2], [3, -5, 2], [7], [], [0]):
            check_own(self, core, days)
        self.assertEqual([type(core([]))] + [type(part) for part in core([])], [tuple, list, list])


class ByCore(unittest.TestCase):
    def test_ordinary_cores(self):
        told = ([2, -7, 4], [6, 6, 1])
        self.assertEqual(by_core(told, 5, 2), (4, 0 + 2, 3 + 2))
        self.assertEqual(by_core(told, 5, 5), (4, 2 + 2, 2 + 2))
        self.assertEqual(by_core(told, 0, 0), (0, 6 + 13, 7 + 13))
        self.assertEqual(by_core(told, 6, 0), (4, 0, 5))
        self.assertEqual(by_core(([5], [5]), 4, 0), totals([5, -5, 5], 4, 0))

    def test_the_edges(self):
        self.assertEqual(by_core(([], []), 5, 3), (3, 0, 0))
        self.assertEqual(by_core(([], []), 0, 0), (0, 0, 0))
        self.assertEqual(by_core(([5], []), 5, 0), (5, 0, 0))
        self.assertEqual(by_core(([-5], [5, 5, 5, 1]), 0, 0), (0, 16, 21))
        self.assertEqual(by_core(([BIG, -BIG], [BIG] * 99), 1, 0), (0, 100 * (BIG - 1), 100 * (BIG - 1)))

    def test_all_small_rows(self):
        for days in small_rows():
            told = core(days)
            for cap in (0, 1, 2, 3, 5):
                for start in range(cap + 1):
                    self.assertEqual(by_core(told, cap, start), totals(days, cap, start), (days, cap, start))

    def test_long_rows(self):
        for days in long_rows():
            told = core(days)
            top = max([abs(move) for move in told[0]])
            for cap in (0, 1, top // 9, top // 2, top - 1, top, 3 * top):
                for start in (0, cap // 3, cap):
                    self.assertEqual(by_core(told, cap, start), totals(days, cap, start))

    def test_cores_are_those_that_some_days_have(self):
        found = set()
        for days in itertools.product(range(-3, 4), repeat=5):
            rest, sizes = core(list(days))
            found.add((tuple(rest), tuple(sizes)))
        for many_moves, many_sizes in itertools.product(range(4), range(2)):
            for rest in itertools.product(range(-3, 4), repeat=many_moves):
                for sizes in itertools.product(range(-1, 5), repeat=many_sizes):
                    told = (list(rest), list(sizes))
                    if (rest, sizes) in found:
                        by_core(told, 2, 1)
                    else:
                        with self.assertRaises(NoCore):
                            by_core(told, 2, 1)

    def test_each_core_is_had_by_some_days(self):
        # Behind its greatest move each of the sizes is drawn and poured again, or poured and drawn.
        for rest, sizes in (([2, -7, 4], [6, 6, 1]), ([5], [5, 5, 2, 1]), ([-5, 5], [5, 3]), ([1, -2, 3, -3, 2], [3, 3, 1])):
            at = [abs(move) for move in rest].index(max(abs(move) for move in rest))
            sign = 1 if rest[at] < 0 else -1
            days = rest[:at + 1] + [day for size in sizes for day in (sign * size, -sign * size)] + rest[at + 1:]
            self.assertEqual(core(days), (rest, sizes))
            self.assertEqual(by_core((rest, sizes), 1, 1), totals(days, 1, 1))

    def test_refused(self):
        check_refusals(self, by_core, CORE, CAP, ("start", 2, NoStart, NO_AMOUNTS + [6, BIG]))
        refused(self, NoCore, by_core, ([0], []), -1, -1)
        refused(self, NoCap, by_core, ([], []), -1, -1)
        refused(self, NoStart, by_core, ([], []), 0, 1)

    def test_deep_things(self):
        deep = []
        for _ in range(39):
            deep = [deep]
        for thing in (deep, (deep, []), ([], deep), ([5], [deep])):
            refused(self, NoCore, by_core, thing, 5, 2)

    def test_asked(self):
        check_names(self, by_core, core=([2, -7, 4], [6, 6, 1]), cap=5, start=1)
        check_own(self, by_core, ([2, -7, 4], [6, 6, 1]), 5, 1)
        self.assertIs(type(by_core(([], []), 0, 0)), tuple)


def all_done(days, greatest):
    """What tanks of all caps up to a greatest one do, from every start."""
    return [(cap, start, totals(days, cap, start)) for cap in range(greatest + 1) for start in range(cap + 1)]


class Apart(unittest.TestCase):
    def test_ordinary_rows(self):
        self.assertEqual(apart([3, -1], [2, -1]), (0, 0))
        self.assertIs(apart([3, -1], [1, 2, 0, -1]), None)
        self.assertEqual(apart([2, -2], [-2, 2]), (1, 0))
        self.assertEqual(apart([1, -1], []), (0, 0))
        # Sizes of one sum: 3 and 1, 2 and 2
        self.assertEqual(apart([9, -3, 3, -1, 1], [9, -2, 2, -2, 2]), (2, 0))
        # The same size taken out of a move behind, and of one ahead
        self.assertIs(apart([9, -3, 3, -9], [9, -9, 3, -3]), None)

    def test_the_edges(self):
        self.assertIs(apart([], []), None)
        self.assertIs(apart([], [0, 0]), None)
        self.assertEqual(apart([], [1]), (0, 0))
        self.assertEqual(apart([-1], []), (0, 0))
        self.assertEqual(apart([BIG, -BIG], [-BIG, BIG]), (1, 0))
        self.assertEqual(apart([BIG], [BIG - 1]), (0, 0))

    def test_a_greater_start_or_cap_tells_apart(self):
        self.assertEqual(apart([BIG, 2 - BIG, BIG, -BIG], [BIG, -BIG, BIG, 2 - BIG]), (BIG - 1, 0))
        self.assertEqual(apart([-4, 2, -2, 4], [2, -4, -2, 4]), (1, 1))
        self.assertEqual(apart([-4, 2, -2, 4], [-3, 3, -3, 3]), (3, 0))
        self.assertEqual(apart([1, -3, 5, -3], [1, -2, 5, -4]), (3, 2))
        self.assertEqual(apart([-3, 6, -3], [-2, 6, -4]), (3, 3))
        self.assertEqual(apart([-3 * BIG, 6 * BIG, -3 * BIG], [-2 * BIG, 6 * BIG, -4 * BIG]), (2 * BIG + 1, 2 * BIG + 1))

    def test_all_pairs_of_small_rows(self):
        rows = [list(days) for many in range(4) for days in itertools.product(range(-2, 3), repeat=many)]
        rows += [list(days) for days in itertools.product((-3, -1, 1, 3), repeat=4)][::3]
        known = [all_done(days, 13) for days in rows]
        numbers = Numbers(1)
        for one, mine in zip(rows, known):
            for _ in range(40):
                at = numbers.below(len(rows))
                told = [(cap, start) for (cap, start, this), (_, _, that) in zip(mine, known[at]) if this != that]
                self.assertEqual(apart(one, rows[at]), told[0] if told else None, (one, rows[at]))

    def test_all_pairs_that_small_caps_hardly_tell_apart(self):
        # Moves of the same sums poured and drawn, so that a cap of 0 tells nothing.
        alike = {}
        for days in itertools.product((-4, -3, -2, -1, 1, 2, 3, 4), repeat=5):
            poured = sum(day for day in days if day > 0)
            if poured == 6 and sum(days) == 0:
                alike.setdefault(tuple(map(tuple, core(list(days)))), list(days))
        rows = list(alike.values())
        known = [all_done(days, 7) for days in rows]
        seen = set()
        for (one, mine), (other, others) in itertools.product(zip(rows, known), repeat=2):
            told = [(cap, start) for (cap, start, this), (_, _, that) in zip(mine, others) if this != that]
            self.assertEqual(apart(one, other), told[0] if told else None, (one, other))
            seen.add(told[0] if told else None)
        self.assertGreater(len({cap for cap, _ in seen - {None}}), 2)
        self.assertGreater(len({start for _, start in seen - {None}}), 1)

    def test_none_just_where_the_cores_are_one(self):
        groups = {}
        for days in map(list, itertools.product((-2, -1, 0, 1, 2), repeat=5)):
            groups.setdefault(tuple(map(tuple, core(days))), []).append(days)
        for rows in groups.values():
            for other in rows[1:4]:
                self.assertIs(apart(rows[0], other), None)
        rows = [rows[0] for rows in groups.values()]
        self.assertEqual(len({tuple(all_done(days, 5)) for days in rows}), len(rows))
        numbers = Numbers(2)
        for days in rows:
            other = rows[numbers.below(len(rows))]
            self.assertIs(apart(days, other) is None, days == other)

    def test_it_goes_either_way(self):
        numbers = Numbers(3)
        for _ in range(200):
            days, other = numbers.row(6, 3), numbers.row(6, 3)
            self.assertEqual(apart(days, other), apart(other, days))

    def test_refused(self):
        check_refusals(self, apart, DAYS, ("other", [2, -1], NoDays, NO_DAYS))
        for thing in NO_DAYS[:20]:
            refused(self, NoDays, apart, [], thing)

    def test_asked(self):
        check_names(self, apart, days=[3, -1], other=[3, -2])
        check_own(self, apart, [3, -1, 2], [3, -2, 3])
        self.assertEqual([type(part) for part in apart([2, -2], [-2, 2])], [int, int])
        self.assertIs(type(apart([1], [2])), tuple)


class Long(unittest.TestCase):
    def test_two_hundred_days_apart(self):
        for days in long_rows():
            self.assertIs(apart(days, days + [0]), None)
            rest, sizes = core(days)
            for other in (days[::-1], [-day for day in days], days[1:], rest, days[:-1] + [days[-1] - 1], days + [1, -1]):
                told = apart(days, other)
                self.assertEqual(told is None, core(other) == (rest, sizes))
                if told is None:
                    continue
                cap, start = told
                self.assertNotEqual(totals(days, cap, start), totals(other, cap, start))
                for less in {0, 1, start // 2, start - 1} - {-1, start}:
                    if less < start:
                        self.assertEqual(totals(days, cap, less), totals(other, cap, less))
                for lower in {0, 1, cap // 2, cap - 1}:
                    if 0 <= lower < cap:
                        self.assertEqual(five(days, lower), five(other, lower))

    def test_steps_do_not_grow_with_the_numbers(self):
        days = Numbers(4).row(200, 30)
        told = check_soon(self, 60 * 200, core, days)
        check_soon(self, 60 * 200, by_core, told, 20, 7)
        zigzag = [(-1) ** at * min(at + 1, 200 - at) for at in range(200)]
        for one, other in ((days, days[::-1]), (zigzag, zigzag[:]), (zigzag, [-day for day in zigzag])):
            steps, _ = steps_of(apart, one, other)
            self.assertLess(steps, 60 * 200 * 200)
            self.assertEqual(steps_of(apart, scaled(one, 10 ** 12), scaled(other, 10 ** 12))[0], steps)

    def test_other_cores_are_refused_soon(self):
        for thing in NO_CORES:
            with self.assertRaises(NoCore):
                by_core(thing, BIG, 0)


if __name__ == "__main__":
    unittest.main()
