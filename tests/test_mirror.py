"""Points 4 and 10 to 12: what tanks of every cap spill and the bests, each the other's mirror."""

import itertools
import unittest

from asking import BIG, CAP, DAYS, MANY, NO_AMOUNTS, NO_LISTS, check_names, check_own, check_refusals, check_soon, refused
from listing import OTHERS, Numbers, small_rows, steps_of, value
from spillmirror.errors import NoDays, NoMirror, NoMost, TooMany
from spillmirror.lots import best, bests, is_lot
from spillmirror.mirror import (bests_of, cap_for, caps_that_show, days_of, shows, spill_lot, spilled, spills,
                                spills_of)
from spillmirror.runs import run, totals

POURED = [[5], [5, 5], [1, 0, 2]]
DRAWN = [[-5], [-5, -5], [-1, 0, -2]]
NOTHING = [[], [0], [0, 0, 0]]


def caps_of(days):
    """Each cap by which something may be spilled, and one more."""
    return range(sum(map(abs, days)) + 2)


def lot_by_times(days, cap):
    """What point 10 says of the lot, word by word."""
    _, over, short = run(days, cap, 0)
    partings = [-1] + [at for at in range(len(days)) if short[at]] + [len(days)]
    lot = []
    for ahead, behind in zip(partings, partings[1:]):
        spilling = [at for at in range(ahead + 1, behind) if over[at]]
        if spilling:
            lot.append((ahead + 1, spilling[-1]))
    return lot


class Spilled(unittest.TestCase):
    def test_an_ordinary_row(self):
        days = [3, 4, -1, -9, 2]
        self.assertEqual([spilled(days, cap) for cap in range(9)], [9, 7, 5, 4, 3, 2, 1, 0, 0])
        self.assertEqual(spilled(days, BIG), 0)

    def test_all_small_rows(self):
        for days in small_rows():
            tops = bests(days)
            for cap in caps_of(days):
                told = spilled(days, cap)
                self.assertEqual(told, totals(days, cap, 0)[1], (days, cap))
                self.assertEqual(told, max(top - many * cap for many, top in enumerate(tops)), (days, cap))

    def test_by_best_of_more_stretches_than_there_are(self):
        for days in ([3, -1, 4, -5, 2], [7], [-7], []):
            for cap in range(10):
                self.assertEqual(spilled(days, cap), max(best(days, many) - many * cap for many in range(12)))

    def test_the_edges(self):
        for days in NOTHING + DRAWN:
            self.assertEqual([spilled(days, cap) for cap in (0, 1, BIG)], [0, 0, 0])
        self.assertEqual([spilled([5, 5], cap) for cap in (0, 1, 9, 10, 11)], [10, 9, 1, 0, 0])

    def test_refused(self):
        check_refusals(self, spilled, DAYS, CAP)

    def test_asked(self):
        check_names(self, spilled, days=[3, 4, -1], cap=2)
        check_own(self, spilled, [3, 4, -1], 2)
        self.assertIs(type(spilled([3], 2)), int)


class SpillLot(unittest.TestCase):
    def test_an_ordinary_row(self):
        days = [0, 3, 4, -1, 0, 3, -9, 0, 2, 9, 0]
        self.assertEqual(spill_lot(days, 5), [(0, 5), (7, 9)])
        self.assertEqual(spill_lot(days, 8), [(0, 5), (7, 9)])
        # Just empty behind the ninth day: nothing parts.
        self.assertEqual(spill_lot(days, 9), [(0, 9)])
        self.assertEqual(spill_lot(days, 10), [(0, 9)])
        self.assertEqual(spill_lot(days, 11), [])
        self.assertEqual(spill_lot(days, 0), [(0, 2), (4, 5), (7, 9)])

    def test_only_what_lacks_parts(self):
        # A tank that is just empty does not part; one that lacks, but spills no more, makes no stretch.
        self.assertEqual(spill_lot([5, -4, 6], 4), [(0, 2)])
        self.assertEqual(spill_lot([5, -5, 6], 4), [(0, 0), (2, 2)])
        self.assertEqual(spill_lot([-1, 5, -1, -1, -9, 3, -9, 3], 4), [(1, 1)])
        self.assertEqual(spill_lot([-1, -1, 0, 5, -9], 4), [(2, 3)])

    def test_a_cap_of_0(self):
        self.assertEqual(spill_lot([1, -1, 1, 0, 1, -1, 0], 0), [(0, 0), (2, 4)])
        self.assertEqual(spill_lot([0, 0, 1], 0), [(0, 2)])
        self.assertEqual(spill_lot([-1, -1], 0), [])
        self.assertEqual(spill_lot([0], 0), [])

    def test_all_small_rows(self):
        for days in small_rows():
            for cap in caps_of(days):
                lot = spill_lot(days, cap)
                self.assertEqual(lot, lot_by_times(days, cap), (days, cap))
                self.assertTrue(is_lot(days, lot), (days, cap))
                self.assertEqual(value(days, lot) - len(lot) * cap, spilled(days, cap), (days, cap))

    def test_the_edges(self):
        for days in NOTHING + DRAWN:
            self.assertEqual([spill_lot(days, cap) for cap in (0, 1, BIG)], [[], [], []])
        self.assertEqual([spill_lot([5, 5], cap) for cap in (0, 9, 10)], [[(0, 1)], [(0, 1)], []])

    def test_refused(self):
        check_refusals(self, spill_lot, DAYS, CAP)

    def test_asked(self):
        check_names(self, spill_lot, days=[3, 4, -1], cap=2)
        check_own(self, spill_lot, [3, 4, -9, 5], 2)
        check_own(self, spill_lot, [], 2)
        self.assertEqual([type(part) for part in spill_lot([5, -5, 5], 2)], [tuple, tuple])


class Spills(unittest.TestCase):
    def test_an_ordinary_row(self):
        self.assertEqual(spills([3, -1, 4, -5, 2]), [9, 6, 4, 3, 2, 1, 0])

    def test_all_small_rows(self):
        for days in small_rows():
            told = spills(days)
            self.assertEqual(told, [spilled(days, cap) for cap in range(len(told))], days)
            self.assertEqual(told.index(0), len(told) - 1, days)

    def test_it_falls_by_how_many_rises_are_greater(self):
        for days in small_rows():
            told, tops = spills(days), bests(days)
            rises = [more - less for less, more in zip(tops, tops[1:])]
            for cap in range(len(told) - 1):
                self.assertEqual(told[cap] - told[cap + 1], sum(rise > cap for rise in rises), (days, cap))

    def test_the_edges(self):
        for days in NOTHING + DRAWN:
            self.assertEqual(spills(days), [0])
        self.assertEqual(spills([2, 2]), [4, 3, 2, 1, 0])

    def test_a_thousand_numbers(self):
        self.assertEqual(spills([999]), list(range(999, -1, -1)))
        self.assertEqual(spills([500, -3, 502])[:3], [1002, 1000, 998])
        for days in ([1000], [500, -3, 503], [1, -1, BIG], [BIG] * 200):
            self.assertEqual(refused(self, TooMany, spills, days).many, 1000)

    def test_refused(self):
        check_refusals(self, spills, DAYS)
        refused(self, NoDays, spills, [1000, True])

    def test_asked(self):
        check_names(self, spills, days=[3, 4, -1])
        check_own(self, spills, [3, 4, -1])
        check_own(self, spills, [])


NO_BESTS = [
    [], [1], [-1], [0, 0], [0, -1], [0, 5, 4], [0, 5, 5], [0, 5, 8, 12], [0, 1, 3], [0, 5, 8, 8], [1, 5, 8], [-1, 5, 8],
    [5, 8], [0, 5, 8, 0], [0, 0, 5], [0, 5, 10, 14, 19],
    # a number one more or less than in [0, 5, 8, 11, 12]
    [1, 5, 8, 11, 12], [-1, 5, 8, 11, 12], [0, 6, 8, 11, 12], [0, 5, 7, 11, 12], [0, 5, 8, 12, 12], [0, 5, 8, 11, 11],
    [0, 5, 8, 11, 15],
]
NO_SPILLS = [
    [], [1], [-1], [0, 0], [1, 1, 0], [0, -1], [-1, 0], [1, 0, 0], [0, 1, 0], [2, 0, 1, 0], [3, 2, 0], [5, 3, 2, 1],
    [4, 3, 1, 0], [5, 2, 1], [0, 5, 8], [3, 1, 1, 0], [5, 2, -1, 0], [2, 1, 0, -1], [2, 1, 0, 0], [9, 5, 1, -1, 0],
    # a number one more or less than in [9, 6, 4, 2, 1, 0]
    [7, 6, 4, 2, 1, 0], [9, 7, 4, 2, 1, 0], [9, 5, 4, 2, 1, 0], [9, 6, 5, 2, 1, 0], [9, 6, 4, 3, 1, 0],
    [9, 6, 4, 1, 1, 0], [9, 6, 4, 2, 2, 0], [9, 6, 4, 2, 0, 0], [9, 6, 4, 2, 1, 1], [9, 6, 4, 2, 1, -1],
    [9, 6, 4, 2, 1, 0, 0], [9, 6, 4, 2, 1, 0, -1], [9, 6, 4, 2, 1],
]
NO_NUMBERS = [thing for thing in OTHERS if thing != 0 or isinstance(thing, bool)]
"""False is among them, though it equals 0."""


class Mirrors(unittest.TestCase):
    """bests_of, spills_of, days_of."""

    def test_an_ordinary_row(self):
        self.assertEqual(bests_of([9, 6, 4, 3, 2, 1, 0]), [0, 6, 8, 9])
        self.assertEqual(spills_of([0, 6, 8, 9]), [9, 6, 4, 3, 2, 1, 0])
        self.assertEqual(days_of([0, 6, 8, 9]), [6, -10, 2, -10, 1])

    def test_the_edges(self):
        self.assertEqual((bests_of([0]), spills_of([0]), days_of([0])), ([0], [0], []))
        self.assertEqual((bests_of([1, 0]), spills_of([0, 1]), days_of([0, 1])), ([0, 1], [1, 0], [1]))
        self.assertEqual((bests_of([3, 0]), spills_of([0, 3])), ([0, 1, 2, 3], [3, 2, 1, 0]))
        self.assertEqual((bests_of([2, 1, 0]), spills_of([0, 1, 2])), ([0, 2], [2, 0]))
        self.assertEqual(days_of([0, 3, 6]), [3, -7, 3])

    def test_to_and_fro(self):
        for days in small_rows():
            told, tops = spills(days), bests(days)
            self.assertEqual(bests_of(told), tops, days)
            self.assertEqual(spills_of(tops), told, days)
            self.assertEqual(bests(days_of(tops)), tops, days)
            self.assertEqual(spills(days_of(tops)), told, days)

    def test_all_lists_of_few_numbers(self):
        for many in range(6):
            for thing in map(list, itertools.product(range(-1, 5), repeat=many)):
                self.check_bests(thing)
                self.check_spills(thing)

    def check_bests(self, thing):
        rises = [more - less for less, more in zip(thing, thing[1:])]
        if thing and thing[0] == 0 and min(rises, default=1) >= 1 and rises == sorted(rises, reverse=True):
            self.assertEqual(spills_of(thing), [sum(max(rise - cap, 0) for rise in rises)
                                                for cap in range(max(rises, default=0) + 1)])
            self.assertEqual(bests(days_of(thing)), thing)
        else:
            refused(self, NoMirror, spills_of, thing)
            refused(self, NoMirror, days_of, thing)

    def check_spills(self, thing):
        falls = [more - less for more, less in zip(thing, thing[1:])]
        if thing and thing[-1] == 0 and min(falls, default=1) >= 1 and falls == sorted(falls, reverse=True):
            self.assertEqual(spills(days_of(bests_of(thing))), thing)
        else:
            refused(self, NoMirror, bests_of, thing)

    def test_days_of_is_as_told(self):
        days = days_of([0, 50, 90, 90 + 7, 90 + 14])
        self.assertEqual(days, [50, -105, 40, -105, 7, -105, 7])

    def test_a_thousand_numbers(self):
        self.assertEqual(bests_of([999, 0]), list(range(1000)))
        self.assertEqual(spills_of([0, 999]), list(range(999, -1, -1)))
        self.assertEqual(spills_of([0, 999, 1000, 1001])[:2], [1001, 998])
        self.assertEqual(bests_of([1001, 2, 1, 0]), [0, 3] + list(range(4, 1002)))
        for told in ([1000, 0], [1002, 2, 1, 0], [BIG, 0], [3 * BIG, BIG, 0]):
            self.assertEqual(refused(self, TooMany, bests_of, told).many, 1000)
        for told in ([0, 1000], [0, 1000, 1001], [0, BIG], [0, BIG, 2 * BIG]):
            self.assertEqual(refused(self, TooMany, spills_of, told).many, 1000)
        # Lists of more numbers may be handed in.
        self.assertEqual(bests_of(list(range(2000, -1, -1))), [0, 2000])
        self.assertEqual(spills_of(list(range(2001))), [2000, 0])
        # Days are one for each number: so many may be told.
        self.assertEqual(len(days_of(list(range(2001)))), 3999)
        self.assertEqual(days_of([0, BIG, 2 * BIG]), [BIG, -1 - 2 * BIG, BIG])

    def test_no_mirror_goes_ahead_of_too_many(self):
        for told in ([BIG, 1], [BIG, 0, 0], [BIG, 5, 5, 0], [BIG, 0, True]):
            refused(self, NoMirror, bests_of, told)
        for told in ([1, BIG], [0, BIG, BIG], [0, BIG, 3 * BIG], [False, BIG], [0, BIG, "1"]):
            refused(self, NoMirror, spills_of, told)
            refused(self, NoMirror, days_of, told)

    def test_no_mirror(self):
        told = [0, 5, 8, 9]
        inner = [told[:at] + [thing] + told[at + 1:] for at in range(4) for thing in NO_NUMBERS + [str(told[at])]]
        for function in (spills_of, days_of):
            function(told)
            for thing in NO_LISTS + NO_BESTS + inner + [tuple(told), (0,), [told], [*told, None], [*told, 9]]:
                refused(self, NoMirror, function, thing)
        told = [9, 6, 4, 2, 1, 0]
        inner = [told[:at] + [thing] + told[at + 1:] for at in range(6) for thing in NO_NUMBERS + [str(told[at])]]
        bests_of(told)
        for thing in NO_LISTS + NO_SPILLS + inner + [tuple(told), (0,), [told], [None, *told], [*told, None]]:
            refused(self, NoMirror, bests_of, thing)
        refused(self, NoMirror, bests_of, [2, True, 0])
        refused(self, NoMirror, spills_of, [0, True])

    def test_asked(self):
        for function, told in ((bests_of, [4, 2, 1, 0]), (spills_of, [0, 2, 3]), (days_of, [0, 2, 3])):
            check_names(self, function, told=told)
            check_own(self, function, list(told))
            check_own(self, function, [0])


class CapFor(unittest.TestCase):
    def test_an_ordinary_row(self):
        # spills: 9, 6, 4, 3, 2, 1, 0
        self.assertEqual([cap_for([3, -1, 4, -5, 2], most) for most in range(11)], [6, 5, 4, 3, 2, 2, 1, 1, 1, 0, 0])

    def test_all_small_rows(self):
        for days in small_rows():
            told = spills(days)
            for most in range(told[0] + 3):
                least = next(cap for cap, over in enumerate(told) if over <= most)
                self.assertEqual(cap_for(days, most), least, (days, most))

    def test_the_edges(self):
        for days in NOTHING + DRAWN:
            self.assertEqual([cap_for(days, most) for most in (0, 1, BIG)], [0, 0, 0])
        self.assertEqual([cap_for([BIG, -BIG, BIG], most) for most in (0, 1, 2, 2 * BIG - 1, 2 * BIG, 3 * BIG)],
                         [BIG, BIG, BIG - 1, 1, 0, 0])

    def test_great_numbers(self):
        days = Numbers(11).row(200, BIG)
        for most in [0, 1, 7, *(best(days, many) // 3 for many in range(1, 101))]:
            cap = cap_for(days, most)
            self.assertLessEqual(spilled(days, cap), most)
            if cap:
                self.assertGreater(spilled(days, cap - 1), most)

    def test_refused(self):
        check_refusals(self, cap_for, DAYS, ("most", 2, NoMost, NO_AMOUNTS))

    def test_asked(self):
        check_names(self, cap_for, days=[3, 4, -1], most=2)
        check_own(self, cap_for, [3, 4, -1], 2)
        self.assertIs(type(cap_for([], 0)), int)


class Shows(unittest.TestCase):
    def test_an_ordinary_row(self):
        # rises: 6, 2, 1
        days = [3, -1, 4, -5, 2]
        self.assertEqual([[cap for cap in range(9) if shows(days, cap, many)] for many in range(6)],
                         [[6, 7, 8], [2, 3, 4, 5, 6], [1, 2], [0, 1], [0], [0]])
        self.assertEqual([caps_that_show(days, many) for many in range(6)],
                         [(6, None), (2, 6), (1, 2), (0, 1), (0, 0), (0, 0)])

    def test_all_small_rows(self):
        for days in small_rows():
            if len(days) > 6:
                continue
            for many in range(len(days) // 2 + 4):
                least, greatest = caps_that_show(days, many)
                self.assertEqual(greatest is None, many == 0, (days, many))
                for cap in range(best(days, 1) + 3):
                    told = shows(days, cap, many)
                    self.assertIs(told, spilled(days, cap) + many * cap == best(days, many), (days, cap, many))
                    self.assertIs(told, least <= cap and (many == 0 or cap <= greatest), (days, cap, many))

    def test_the_edges(self):
        for days in NOTHING + DRAWN:
            self.assertEqual([caps_that_show(days, many) for many in (0, 1, 2, BIG)], [(0, None), (0, 0), (0, 0), (0, 0)])
            self.assertEqual([shows(days, cap, 0) for cap in (0, 1, BIG)], [True, True, True])
            self.assertEqual([shows(days, cap, 1) for cap in (0, 1, BIG)], [True, False, False])
        for days in POURED:
            top = sum(days)
            self.assertEqual([caps_that_show(days, many) for many in (0, 1, 2, 3, 100, BIG)],
                             [(top, None), (0, top), (0, 0), (0, 0), (0, 0), (0, 0)])
        self.assertEqual(caps_that_show([3, -3, 3], 1), (3, 3))
        self.assertEqual(caps_that_show([3, -9, 3], 2), (0, 3))

    def test_refused(self):
        check_refusals(self, shows, DAYS, CAP, MANY)
        check_refusals(self, caps_that_show, DAYS, MANY)

    def test_asked(self):
        check_names(self, shows, days=[3, 4, -1], cap=6, many=1)
        check_names(self, caps_that_show, days=[3, 4, -1], many=1)
        check_own(self, shows, [3, 4, -1], 6, 1)
        check_own(self, caps_that_show, [3, 4, -1], 1)
        self.assertIs(type(caps_that_show([5], 1)), tuple)


class Long(unittest.TestCase):
    def test_the_whole_of_two_hundred_days(self):
        for seed, greatest in ((1, 1), (2, 40), (3, BIG)):
            days = Numbers(seed).row(200, greatest)
            tops = bests(days)
            for many in [*range(len(tops) + 1), 200, BIG]:
                least, greatest_cap = caps_that_show(days, many)
                self.assertTrue(shows(days, least, many))
                self.assertTrue(shows(days, least + BIG if greatest_cap is None else greatest_cap, many))
                self.assertFalse(least and shows(days, least - 1, many))
                self.assertFalse(greatest_cap is not None and shows(days, greatest_cap + 1, many))
                lot = spill_lot(days, least)
                self.assertTrue(is_lot(days, lot))
                self.assertEqual(value(days, lot) - len(lot) * least, spilled(days, least))
            if greatest < BIG:
                self.assertEqual(spills(days), [spilled(days, cap) for cap in range(tops[1] + 1)])
                self.assertEqual(bests_of(spills(days)), tops)
            self.assertEqual(bests(days_of(tops)), tops)

    def test_steps_do_not_grow_with_the_numbers(self):
        for seed in (1, 2, 3):
            days = Numbers(seed).row(200, 30)
            check_soon(self, 40 * 200, spilled, days, 17)
            check_soon(self, 40 * 200, spill_lot, days, 17)
            check_soon(self, 200 ** 2, cap_for, days, 100)
            check_soon(self, 200 ** 2, shows, days, 17, 5, same=(2,))
            check_soon(self, 200 ** 2, caps_that_show, days, 5, same=(1,))
            check_soon(self, 200 ** 2, days_of, bests(days))
            self.assertEqual(steps_of(caps_that_show, days, BIG)[0], steps_of(caps_that_show, days, 100)[0])

    def test_lists_are_told_in_as_many_steps_as_they_are_long(self):
        self.assertLess(steps_of(spills, [999] + [-1, 1] * 99)[0], 20000)
        self.assertLess(steps_of(bests_of, [999, 0])[0], 20000)
        self.assertLess(steps_of(spills_of, [0, 999])[0], 20000)
        for function, told in ((spills, [BIG] * 200), (bests_of, [BIG, 0]), (spills_of, [0, BIG])):
            with self.assertRaises(TooMany):
                function(told)


if __name__ == "__main__":
    unittest.main()
