"""Points 4, 13 and 14: what is spilled and lacking from any start, shown by lots."""

import itertools
import unittest

from asking import BIG, CAP, DAYS, START, check_names, check_own, check_refusals, check_soon, refused
from listing import LOTS, Numbers, lot_of, small_rows, value
from spillmirror.begins import most_lacking, most_spilled
from spillmirror.errors import NoStart
from spillmirror.lots import is_lot
from spillmirror.mirror import spill_lot, spilled
from spillmirror.runs import run, totals


def shown_spilled(days, cap, start, lot):
    """What a lot shows to be spilled."""
    return value(days, lot) - sum(cap if first else cap - start for first, last in lot)


def shown_lacking(days, cap, start, lot):
    """What a lot shows to be lacking."""
    return -value(days, lot) - sum(cap if first else start for first, last in lot)


def lot_by_times(marks, partings):
    """A stretch for each time between two partings, by the days that it holds."""
    held = [False] * len(marks)
    for at in range(len(marks)):
        # A day is held where a mark stands on it or behind it, with no parting from here to there.
        for behind in range(at, len(marks)):
            if partings[behind]:
                break
            held[at] = held[at] or marks[behind] > 0
    return lot_of(held)


def tanks(greatest):
    """All (cap, start) up to a greatest cap."""
    return [(cap, start) for cap in range(greatest + 1) for start in range(cap + 1)]


def rows():
    """Rows of few days, each with all lots and their costs yet to come."""
    for many_days in range(5):
        yield from map(list, itertools.product((-2, -1, 0, 1, 2), repeat=many_days))
    yield from map(list, itertools.product((-5, -3, 2, 4), repeat=4))
    yield from map(list, itertools.product((-3, 0, 2), repeat=5))
    yield from (Numbers(seed).row(7, 4) for seed in range(40))


class AgainstAllLots(unittest.TestCase):
    def test_most_spilled(self):
        for days in rows():
            for cap, start in tanks(4):
                over, lot = most_spilled(days, cap, start)
                self.assertEqual(over, max(shown_spilled(days, cap, start, one) for one in LOTS[len(days)]))
                self.assertEqual(shown_spilled(days, cap, start, lot), over, (days, cap, start))

    def test_most_lacking(self):
        for days in rows():
            for cap, start in tanks(4):
                short, lot = most_lacking(days, cap, start)
                self.assertEqual(short, max(shown_lacking(days, cap, start, one) for one in LOTS[len(days)]))
                self.assertEqual(shown_lacking(days, cap, start, lot), short, (days, cap, start))


class ByTheRun(unittest.TestCase):
    def test_all_small_rows(self):
        for days in small_rows():
            for cap, start in ((0, 0), (1, 0), (1, 1), (2, 1), (4, 0), (4, 1), (4, 4), (9, 5)):
                _, over, short = run(days, cap, start)
                self.assertEqual(most_spilled(days, cap, start), (sum(over), lot_by_times(over, short)))
                self.assertEqual(most_lacking(days, cap, start), (sum(short), lot_by_times(short, over)))

    def test_from_empty_it_is_spill_lot(self):
        for days in small_rows():
            for cap in (0, 1, 3):
                self.assertEqual(most_spilled(days, cap, 0), (spilled(days, cap), spill_lot(days, cap)))

    def test_turned_about(self):
        # What is lacking is what is spilled of days turned about, from as far below the cap.
        for days in small_rows():
            turned = [-day for day in days]
            for cap, start in ((0, 0), (3, 0), (3, 1), (3, 3)):
                self.assertEqual(most_lacking(days, cap, start), most_spilled(turned, cap, cap - start))


class Examples(unittest.TestCase):
    def test_spilled(self):
        days = [3, -1, 4, -9, 0, 2, 5, -1]
        self.assertEqual(most_spilled(days, 5, 0), (3, [(0, 2), (4, 6)]))
        self.assertEqual(most_spilled(days, 5, 2), (5, [(0, 2), (4, 6)]))
        self.assertEqual(most_spilled(days, 5, 5), (8, [(0, 2), (4, 6)]))
        self.assertEqual(most_spilled([-2, 9, -9], 5, 1), (4, [(1, 1)]))
        self.assertEqual(most_spilled([-2, 9, -9], 5, 2), (4, [(0, 1)]))

    def test_lacking(self):
        days = [-3, 1, -4, 9, 0, -2, -5, 1]
        self.assertEqual(most_lacking(days, 5, 5), (3, [(0, 2), (4, 6)]))
        self.assertEqual(most_lacking(days, 5, 3), (5, [(0, 2), (4, 6)]))
        self.assertEqual(most_lacking(days, 5, 0), (8, [(0, 2), (4, 6)]))
        self.assertEqual(most_lacking([2, -9, 9], 5, 4), (4, [(1, 1)]))
        self.assertEqual(most_lacking([2, -9, 9], 5, 3), (4, [(0, 1)]))

    def test_starts_of_the_cap(self):
        self.assertEqual(most_spilled([1], 3, 3), (1, [(0, 0)]))
        self.assertEqual(most_spilled([0], 3, 3), (0, []))
        self.assertEqual(most_spilled([0, 0, 1], 3, 3), (1, [(0, 2)]))
        self.assertEqual(most_lacking([-3], 3, 3), (0, []))
        self.assertEqual(most_lacking([-4], 3, 3), (1, [(0, 0)]))

    def test_starts_of_0(self):
        self.assertEqual(most_spilled([3], 3, 0), (0, []))
        self.assertEqual(most_spilled([4], 3, 0), (1, [(0, 0)]))
        self.assertEqual(most_lacking([-1], 3, 0), (1, [(0, 0)]))
        self.assertEqual(most_lacking([0], 3, 0), (0, []))
        self.assertEqual(most_lacking([0, 0, -1], 3, 0), (1, [(0, 2)]))

    def test_a_cap_of_0(self):
        self.assertEqual(most_spilled([1, 0, 2, -1, 3], 0, 0), (6, [(0, 2), (4, 4)]))
        self.assertEqual(most_lacking([-1, 0, -2, 1, -3], 0, 0), (6, [(0, 2), (4, 4)]))
        self.assertEqual(most_lacking([1, 0, 2, -1, 3], 0, 0), (1, [(3, 3)]))

    def test_no_days_and_days_of_one_kind(self):
        for cap, start in tanks(3):
            for days in ([], [0], [0, 0]):
                self.assertEqual(most_spilled(days, cap, start), (0, []))
                self.assertEqual(most_lacking(days, cap, start), (0, []))
            self.assertEqual(most_spilled([-5, -5], cap, start), (0, []))
            self.assertEqual(most_lacking([5, 5], cap, start), (0, []))
            self.assertEqual(most_spilled([5, 5], cap, start), (10 - cap + start, [(0, 1)]))
            self.assertEqual(most_lacking([-5, -5], cap, start), (10 - start, [(0, 1)]))

    def test_kinds(self):
        for function in (most_spilled, most_lacking):
            told = function([9, -9, -9, 9], 3, 1)
            self.assertEqual([type(part) for part in told], [int, list])
            self.assertIs(type(told), tuple)
            self.assertEqual({type(part) for part in told[1]}, {tuple})


class Asked(unittest.TestCase):
    def test_refused(self):
        for function in (most_spilled, most_lacking):
            check_refusals(self, function, DAYS, CAP, START)
            refused(self, NoStart, function, [], 0, 1)
            refused(self, NoStart, function, [], 0, False)

    def test_asked(self):
        for function in (most_spilled, most_lacking):
            check_names(self, function, days=[9, -9, -9, 9], cap=3, start=1)
            check_own(self, function, [9, -9, -9, 9, -20], 3, 1)
            check_own(self, function, [], 3, 1)


class Long(unittest.TestCase):
    def test_two_hundred_days(self):
        for seed, greatest in ((1, 1), (2, 40), (3, BIG)):
            days = Numbers(seed).row(200, greatest)
            for cap in (0, greatest, 3 * greatest, 20 * greatest):
                for start in (0, cap // 3, cap):
                    for function, shown, at in ((most_spilled, shown_spilled, 1), (most_lacking, shown_lacking, 2)):
                        told, lot = function(days, cap, start)
                        self.assertEqual(told, totals(days, cap, start)[at])
                        self.assertTrue(is_lot(days, lot))
                        self.assertEqual(shown(days, cap, start, lot), told)

    def test_steps_do_not_grow_with_the_numbers(self):
        for function in (most_spilled, most_lacking):
            check_soon(self, 40 * 200, function, Numbers(4).row(200, 30), 17, 5)


if __name__ == "__main__":
    unittest.main()
