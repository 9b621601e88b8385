"""Points 4 and 22: days that come again and again."""

import unittest

from asking import (BIG, CAP, DAYS, MANY, START, check_names, check_own, check_refusals, check_soon, refused)
from listing import Numbers, small_rows, steps_of
from spillmirror.errors import NoCap, NoMany, NoStart
from spillmirror.fives import five, joined, led
from spillmirror.rounds import round_of, rounds, stays
from spillmirror.runs import totals


def five_of_rounds(days, cap, many):
    """The five of so many rounds, joined from those of 1, 2, 4, .. rounds."""
    told = five([], cap)
    power = five(days, cap)
    while many:
        if many & 1:
            told = joined(cap, told, power)
        power = joined(cap, power, power)
        many >>= 1
    return told


class Stays(unittest.TestCase):
    def test_ordinary_rows(self):
        self.assertEqual(stays([3, -1], 5), (4, 4))
        self.assertEqual(stays([-3, 1], 5), (1, 1))
        self.assertEqual(stays([2, -2], 5), (0, 3))
        self.assertEqual(stays([-2, 2], 5), (2, 5))
        self.assertEqual(stays([9, -9], 5), (0, 0))
        self.assertEqual(stays([9, -3], 5), (2, 2))
        self.assertEqual(stays([-9, 3], 5), (3, 3))

    def test_the_edges(self):
        for days in ([], [0], [0, 0]):
            self.assertEqual(stays(days, 5), (0, 5))
            self.assertEqual(stays(days, 0), (0, 0))
            self.assertEqual(stays(days, BIG), (0, BIG))
        self.assertEqual(stays([3, -1], 0), (0, 0))
        self.assertEqual(stays([1], 5), (5, 5))
        self.assertEqual(stays([-1], 5), (0, 0))
        self.assertEqual(stays([5, -5], 5), (0, 0))
        self.assertEqual(stays([4, -4], 5), (0, 1))

    def test_all_small_rows(self):
        for days in small_rows():
            for cap in (0, 1, 2, 4):
                stay = [start for start in range(cap + 1) if totals(days, cap, start)[0] == start]
                least, greatest = stays(days, cap)
                self.assertEqual(list(range(least, greatest + 1)), stay, (days, cap))

    def test_refused(self):
        check_refusals(self, stays, DAYS, CAP)

    def test_asked(self):
        check_names(self, stays, days=[3, 4, -1], cap=5)
        check_own(self, stays, [3, 4, -1], 5)
        self.assertEqual([type(stays([], 0))] + [type(part) for part in stays([], 0)], [tuple, int, int])


class Rounds(unittest.TestCase):
    def test_ordinary_rows(self):
        self.assertEqual([rounds([3, -1], 5, start) for start in range(6)], [(2, 4), (2, 4), (1, 4), (1, 4), (0, 4), (1, 4)])
        self.assertEqual([rounds([-3, 1], 5, start) for start in range(6)], [(1, 1), (0, 1), (1, 1), (1, 1), (2, 1), (2, 1)])
        self.assertEqual([rounds([2, -2], 5, start) for start in range(6)], [(0, 0), (0, 1), (0, 2), (0, 3), (1, 3), (1, 3)])
        self.assertEqual([rounds([-2, 2], 5, start) for start in range(6)], [(1, 2), (1, 2), (0, 2), (0, 3), (0, 4), (0, 5)])
        self.assertEqual([rounds([1], 5, start) for start in range(6)], [(5, 5), (4, 5), (3, 5), (2, 5), (1, 5), (0, 5)])
        self.assertEqual([rounds([-2], 5, start) for start in range(6)], [(0, 0), (1, 0), (1, 0), (2, 0), (2, 0), (3, 0)])

    def test_the_edges(self):
        for days in ([], [0]):
            self.assertEqual([rounds(days, 5, start) for start in (0, 2, 5)], [(0, 0), (0, 2), (0, 5)])
            self.assertEqual(rounds(days, 0, 0), (0, 0))
        self.assertEqual(rounds([7, -2], 0, 0), (0, 0))
        # As many rounds as there are units.
        self.assertEqual(rounds([1], BIG, 0), (BIG, BIG))
        self.assertEqual(rounds([-1], BIG, BIG), (BIG, 0))
        self.assertEqual(rounds([2], BIG, 0), ((BIG + 1) // 2, BIG))
        self.assertEqual(rounds([-3, 2], BIG, BIG), (BIG - 2, 2))
        self.assertEqual(rounds([BIG, -BIG], BIG - 1, 3), (1, 0))

    def test_all_small_rows(self):
        for days in small_rows():
            for cap in (0, 1, 3, 7):
                for start in range(cap + 1):
                    content, many = start, 0
                    while (end := totals(days, cap, content)[0]) != content:
                        content, many = end, many + 1
                    self.assertEqual(rounds(days, cap, start), (many, content), (days, cap, start))

    def test_refused(self):
        check_refusals(self, rounds, DAYS, CAP, START)
        refused(self, NoStart, rounds, [1], 0, 1)
        refused(self, NoCap, rounds, [1], -1, -1)

    def test_asked(self):
        check_names(self, rounds, days=[3, -1], cap=5, start=1)
        check_own(self, rounds, [3, -1], 5, 1)
        self.assertEqual([type(rounds([3, -1], 5, 1))] + [type(part) for part in rounds([3, -1], 5, 1)], [tuple, int, int])


class RoundOf(unittest.TestCase):
    def test_ordinary_rows(self):
        self.assertEqual([round_of([3, -1], 5, 0, many) for many in range(5)],
                         [(0, 0, 0), (2, 0, 0), (4, 0, 0), (4, 2, 0), (4, 4, 0)])
        self.assertEqual([round_of([-3, 1], 5, 4, many) for many in range(4)], [(4, 0, 0), (2, 0, 0), (1, 0, 1), (1, 0, 3)])
        self.assertEqual([round_of([9, -9], 5, 2, many) for many in range(4)], [(2, 0, 0), (0, 6, 4), (0, 10, 8), (0, 14, 12)])

    def test_the_edges(self):
        for many in (0, 1, 2, BIG, 10 ** 40):
            for days in ([], [0], [0, 0]):
                self.assertEqual(round_of(days, 5, 3, many), (3, 0, 0))
            self.assertEqual(round_of([3, -2], 0, 0, many), (0, 3 * many, 2 * many))
        self.assertEqual(round_of([3], 5, 2, 0), (2, 0, 0))
        self.assertEqual(round_of([3], 5, 2, BIG), (5, 3 * BIG - 3, 0))
        self.assertEqual(round_of([-3], 5, 2, BIG), (0, 0, 3 * BIG - 2))
        self.assertEqual(round_of([1], BIG, 0, BIG), (BIG, 0, 0))
        self.assertEqual(round_of([1], BIG, 0, BIG - 1), (BIG - 1, 0, 0))
        self.assertEqual(round_of([1], BIG, 0, BIG + 1), (BIG, 1, 0))

    def test_all_small_rows(self):
        for days in small_rows():
            for cap in (0, 1, 4):
                for start in range(cap + 1):
                    content, over, short = start, 0, 0
                    for many in range(8):
                        self.assertEqual(round_of(days, cap, start, many), (content, over, short), (days, cap, start, many))
                        content, more, less = totals(days, cap, content)
                        over, short = over + more, short + less

    def test_rounds_behind_one_another_are_one_row(self):
        for seed in range(60):
            days = Numbers(seed).row(5, 4)
            for cap in (0, 3, 9, 40):
                for start in {0, cap // 3, cap}:
                    for many in (0, 1, 2, 3, 9, 20):
                        self.assertEqual(round_of(days, cap, start, many), totals(days * many, cap, start))

    def test_a_great_many_rounds(self):
        for seed in range(60):
            for greatest, cap in ((3, 5), (3, 900), (BIG, BIG), (40, BIG), (BIG, 30 * BIG)):
                numbers = Numbers(seed)
                days = numbers.row(6, greatest)
                for many in (1, 2, 999, BIG // 7, BIG, 10 ** 40 + 1):
                    told = five_of_rounds(days, cap, many)
                    for start in (0, numbers.below(cap), cap):
                        self.assertEqual(round_of(days, cap, start, many), led(cap, told, start), (days, cap, start, many))

    def test_the_content_stays_behind_so_many_rounds(self):
        for seed in range(60):
            for greatest, cap in ((3, 50), (3, BIG), (BIG, 9 * BIG)):
                numbers = Numbers(seed)
                days = numbers.row(7, greatest)
                start = numbers.below(cap + 1)
                many, content = rounds(days, cap, start)
                least, highest = stays(days, cap)
                self.assertTrue(least <= content <= highest)
                for more in (0, 1, 5, BIG):
                    self.assertEqual(round_of(days, cap, start, many + more)[0], content)
                if many:
                    self.assertFalse(least <= round_of(days, cap, start, many - 1)[0] <= highest)

    def test_refused(self):
        check_refusals(self, round_of, DAYS, CAP, START, MANY)
        refused(self, NoMany, round_of, [], 0, 0, -1)
        refused(self, NoMany, round_of, [], 0, 0, True)
        refused(self, NoStart, round_of, [], 0, 1, -1)

    def test_asked(self):
        check_names(self, round_of, days=[3, -1], cap=5, start=1, many=3)
        check_own(self, round_of, [3, -1], 5, 1, 3)
        self.assertEqual([type(part) for part in round_of([3, -1], 5, 1, 3)], [int, int, int])
        self.assertIs(type(round_of([3, -1], 5, 1, 0)), tuple)


class Long(unittest.TestCase):
    def test_two_hundred_days(self):
        for seed, greatest in ((1, 1), (2, 40), (3, BIG)):
            days = Numbers(seed).row(200, greatest)
            for cap in (0, greatest, 9 * greatest, 400 * greatest):
                for start in (0, cap // 2, cap):
                    self.assertEqual(round_of(days, cap, start, 4), totals(days * 4, cap, start))
                    many, content = rounds(days, cap, start)
                    self.assertEqual(led(cap, five_of_rounds(days, cap, many), start)[0], content)
                    self.assertEqual(totals(days, cap, content)[0], content)

    def test_steps_do_not_grow_with_the_numbers(self):
        days = Numbers(4).row(200, 30)
        for cap, start in ((50, 20), (2000, 0)):
            check_soon(self, 90 * 200, stays, days, cap)
            check_soon(self, 90 * 200, rounds, days, cap, start)
            check_soon(self, 90 * 200, round_of, days, cap, start, 7)
            steps = steps_of(round_of, days, cap, start, 7)[0]
            self.assertEqual(steps_of(round_of, days, cap, start, 10 ** 60)[0], steps)
        steps = [steps_of(rounds, [1, 0], cap, 0)[0] for cap in (2, 10, BIG)]
        self.assertEqual(len(set(steps)), 1)


if __name__ == "__main__":
    unittest.main()
