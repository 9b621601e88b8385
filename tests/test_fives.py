"""Points 4 and 15 to 17: the five numbers of what days do to a tank of a cap."""

import itertools
import unittest

from asking import BIG, CAP, DAYS, FIVE, NO_AMOUNTS, NO_FIVES, check_names, check_own, check_refusals, check_soon, refused
from listing import Numbers, small_rows, steps_of
from spillmirror.errors import NoCap, NoFive, NoStart
from spillmirror.fives import ends_from, few_days, five, is_five, joined, led
from spillmirror.runs import totals

FIVE_DAYS = tuple(map(list, itertools.product(range(-3, 4), repeat=5)))
"""All rows of five days from -3 to 3; a day of 0 does nothing, so fewer days are among them."""


def all_totals(days, cap):
    """(end, spilled, lacking) from each start."""
    return [totals(days, cap, start) for start in range(cap + 1)]


def five_by_starts(days, cap):
    """The five by its definition: the one low and high that fit all starts."""
    told = all_totals(days, cap)
    fits = []
    for low in range(cap + 1):
        for high in range(low, cap + 1):
            end, over, short = told[low]
            rows = [(end, over, short + low - start) for start in range(low)]
            rows += [(end + start - low, over, short) for start in range(low, high + 1)]
            rows += [(end + high - low, over + start - high, short) for start in range(high + 1, cap + 1)]
            if rows == told:
                fits.append((sum(days), over, short, low, high))
    assert len(fits) == 1, (days, cap)
    return fits[0]


def fives_near(cap, most):
    """All fives of a cap of so much spilled and lacking at most, by the words of point 15."""
    for total in range(-cap - most, cap + most + 1):
        for over, short in itertools.product(range(most + 1), repeat=2):
            for low in range(cap + 1):
                for high in range(low, cap + 1):
                    ends = [edge + total + short - over for edge in (low, high)]
                    if 0 <= min(ends) and max(ends) <= cap and (low == high or over == short == 0):
                        yield total, over, short, low, high


class Five(unittest.TestCase):
    def test_ordinary_rows(self):
        self.assertEqual(five([3, -1], 5), (2, 0, 0, 0, 2))
        self.assertEqual(five([-3, 1], 5), (-2, 0, 0, 3, 5))
        self.assertEqual(five([1, -2], 5), (-1, 0, 0, 1, 4))
        self.assertEqual(five([9, -9], 5), (0, 4, 4, 0, 0))
        self.assertEqual(five([-9, 9], 5), (0, 4, 4, 5, 5))
        self.assertEqual(five([-2, 5], 5), (3, 0, 0, 2, 2))

    def test_the_edges(self):
        for days in ([], [0], [0, 0]):
            self.assertEqual(five(days, 5), (0, 0, 0, 0, 5))
            self.assertEqual(five(days, 0), (0, 0, 0, 0, 0))
        self.assertEqual(five([5], 5), (5, 0, 0, 0, 0))
        self.assertEqual(five([6], 5), (6, 1, 0, 0, 0))
        self.assertEqual(five([-5], 5), (-5, 0, 0, 5, 5))
        self.assertEqual(five([-6], 5), (-6, 0, 1, 5, 5))
        self.assertEqual(five([2, -3, 4], 0), (3, 6, 3, 0, 0))

    def test_all_small_rows(self):
        for days in small_rows():
            for cap in (0, 1, 2, 3):
                told = five(days, cap)
                self.assertEqual(told, five_by_starts(days, cap), (days, cap))
                self.assertIs(is_five(cap, told), True, (days, cap))

    def test_one_five_just_where_all_is_the_same(self):
        for cap in range(4):
            same = {}
            for days in FIVE_DAYS[::7]:
                same.setdefault(five(days, cap), set()).add(tuple(all_totals(days, cap)))
            self.assertEqual({len(rows) for rows in same.values()}, {1})
            self.assertEqual(len(set().union(*same.values())), len(same))

    def test_refused(self):
        check_refusals(self, five, DAYS, CAP)

    def test_asked(self):
        check_names(self, five, days=[3, 4, -1], cap=5)
        check_own(self, five, [3, 4, -1], 5)
        self.assertIs(type(five([], 0)), tuple)
        self.assertEqual([type(part) for part in five([], 0)], [int] * 5)


class IsFive(unittest.TestCase):
    def test_fives(self):
        for thing in ((0, 0, 0, 0, 5), (5, 0, 0, 0, 0), (-5, 0, 0, 5, 5), (0, 3, 3, 2, 2), (1, 0, 0, 1, 4), (3, 0, 0, 2, 2),
                      (-2, 0, 0, 2, 2), (BIG, BIG, 3, 2, 2), (-BIG, 0, BIG, 0, 0), (-BIG, 0, BIG, 5, 5)):
            self.assertIs(is_five(5, thing), True, thing)
        self.assertIs(is_five(0, (0, 0, 0, 0, 0)), True)
        self.assertIs(is_five(0, (3, 5, 2, 0, 0)), True)
        self.assertIs(is_five(BIG, (0, 0, 0, 0, BIG)), True)

    def test_no_fives(self):
        for thing in NO_FIVES:
            self.assertIs(is_five(5, thing), False, thing)
        self.assertIs(is_five(0, (0, 0, 0, 0, 1)), False)
        self.assertIs(is_five(0, (1, 0, 0, 0, 0)), False)

    def test_deep_things(self):
        deep = ()
        for _ in range(39):
            deep = (deep, deep)
        self.assertIs(is_five(5, deep), False)
        self.assertIs(is_five(5, (0, 0, 0, 0, deep)), False)

    def test_it_is_what_days_of_few_small_numbers_have(self):
        for cap in (0, 1, 2):
            found = {told for told in (five(days, cap) for days in FIVE_DAYS) if max(told[1:3]) <= 1}
            near = itertools.product(range(-4, 5), range(-1, 2), range(-1, 2), range(-1, cap + 2), range(-1, cap + 2))
            self.assertEqual({thing for thing in near if is_five(cap, thing)}, found)
            self.assertEqual(set(fives_near(cap, 1)), found)

    def test_refused(self):
        for cap in NO_AMOUNTS:
            refused(self, NoCap, is_five, cap, (0, 0, 0, 0, 0))
            refused(self, NoCap, is_five, cap, None)

    def test_asked(self):
        check_names(self, is_five, cap=5, thing=(0, 0, 0, 0, 5))
        check_own(self, is_five, 5, [0, 0, 0, 0, 5])


class Led(unittest.TestCase):
    def test_where_low_is_less_than_high(self):
        # low 1, high 4
        self.assertEqual([led(5, (1, 0, 0, 1, 4), start) for start in range(6)],
                         [(2, 0, 1), (2, 0, 0), (3, 0, 0), (4, 0, 0), (5, 0, 0), (5, 1, 0)])

    def test_where_they_are_alike(self):
        self.assertEqual([led(5, (0, 3, 4, 2, 2), start) for start in range(6)],
                         [(3, 3, 6), (3, 3, 5), (3, 3, 4), (3, 4, 4), (3, 5, 4), (3, 6, 4)])

    def test_a_cap_of_0(self):
        self.assertEqual(led(0, (3, 5, 2, 0, 0), 0), (0, 5, 2))

    def test_all_small_rows(self):
        for days in small_rows():
            for cap in (0, 1, 3, 4):
                told = five(days, cap)
                self.assertEqual([led(cap, told, start) for start in range(cap + 1)], all_totals(days, cap), (days, cap))

    def test_refused(self):
        check_refusals(self, led, CAP, FIVE, ("start", 2, NoStart, NO_AMOUNTS + [6, BIG]))
        refused(self, NoFive, led, 4, (0, 0, 0, 0, 5), 9)
        refused(self, NoStart, led, 0, (0, 0, 0, 0, 0), 1)

    def test_asked(self):
        check_names(self, led, cap=5, five=(1, 0, 0, 1, 4), start=0)
        self.assertIs(type(led(5, (1, 0, 0, 1, 4), 0)), tuple)


class Joined(unittest.TestCase):
    def test_ordinary_fives(self):
        self.assertEqual(joined(5, five([3, -1], 5), five([-4, 1], 5)), five([3, -1, -4, 1], 5))
        self.assertEqual(joined(5, (0, 0, 0, 0, 5), (0, 0, 0, 0, 5)), (0, 0, 0, 0, 5))
        self.assertEqual(joined(0, (3, 5, 2, 0, 0), (-1, 0, 1, 0, 0)), (2, 5, 3, 0, 0))

    def test_all_fives_of_small_caps(self):
        for cap in range(4):
            fives = list(fives_near(cap, 1))
            rows = [few_days(cap, one) for one in fives]
            for one, days in zip(fives, rows):
                for other, behind in zip(fives, rows):
                    told = joined(cap, one, other)
                    self.assertEqual(told, five(days + behind, cap), (cap, one, other))
                    self.assertTrue(is_five(cap, told))

    def test_in_any_grouping(self):
        for seed in range(60):
            days = Numbers(seed).row(12, 6)
            for cap in (0, 1, 4, 9, 30):
                a, b, c, d = (five(days[at:at + 3], cap) for at in (0, 3, 6, 9))
                whole = five(days, cap)
                self.assertEqual(joined(cap, joined(cap, joined(cap, a, b), c), d), whole)
                self.assertEqual(joined(cap, joined(cap, a, b), joined(cap, c, d)), whole)
                self.assertEqual(joined(cap, a, joined(cap, b, joined(cap, c, d))), whole)
                self.assertEqual(joined(cap, a, joined(cap, joined(cap, b, c), d)), whole)
                self.assertEqual(joined(cap, joined(cap, a, joined(cap, b, c)), d), whole)

    def test_with_no_days(self):
        for cap in range(4):
            none = five([], cap)
            for one in fives_near(cap, 2):
                self.assertEqual(joined(cap, one, none), one)
                self.assertEqual(joined(cap, none, one), one)

    def test_refused(self):
        check_refusals(self, joined, CAP, FIVE, ("other", (2, 0, 0, 1, 3), NoFive, NO_FIVES))

    def test_asked(self):
        check_names(self, joined, cap=5, five=(1, 0, 0, 1, 4), other=(-1, 0, 0, 3, 5))
        check_own(self, joined, 5, (1, 0, 0, 1, 4), (-1, 0, 0, 3, 5))
        self.assertIs(type(joined(0, (0, 0, 0, 0, 0), (0, 0, 0, 0, 0))), tuple)


class FewDays(unittest.TestCase):
    def test_where_low_is_less_than_high(self):
        self.assertEqual(few_days(5, (1, 0, 0, 1, 4)), [-1, 2, 0])
        self.assertEqual(few_days(5, (-1, 0, 0, 1, 4)), [-1, 2, -2])
        self.assertEqual(few_days(5, (0, 0, 0, 0, 5)), [0, 0, 0])

    def test_where_they_are_alike(self):
        self.assertEqual(few_days(5, (0, 3, 4, 2, 2)), [-2, 5, 3, -9, 3])
        self.assertEqual(few_days(5, (-5, 0, 0, 5, 5)), [-5, 5, 0, -5, 0])
        self.assertEqual(few_days(0, (0, 0, 0, 0, 0)), [0, 0, 0, 0, 0])
        self.assertEqual(few_days(0, (3, 5, 2, 0, 0)), [0, 0, 5, -2, 0])

    def test_all_fives_of_small_caps(self):
        for cap in range(6):
            for one in fives_near(cap, 3):
                days = few_days(cap, one)
                self.assertEqual(five(days, cap), one, (cap, one))
                self.assertEqual(len(days), 3 if one[3] < one[4] else 5)
                self.assertEqual([led(cap, one, start) for start in range(cap + 1)], all_totals(days, cap))

    def test_great_fives(self):
        for one in ((0, BIG, BIG, 2, 2), (7 - BIG, 0, 0, BIG - 7, BIG), (3, 200 * BIG, 200 * BIG, 0, 0),
                    (BIG, 200 * BIG, 199 * BIG, 9, 9)):
            self.assertEqual(five(few_days(BIG, one), BIG), one)

    def test_refused(self):
        check_refusals(self, few_days, CAP, FIVE)

    def test_asked(self):
        check_names(self, few_days, cap=5, five=(1, 0, 0, 1, 4))
        check_own(self, few_days, 5, (1, 0, 0, 1, 4))
        check_own(self, few_days, 5, (0, 3, 4, 2, 2))


class EndsFrom(unittest.TestCase):
    def test_ordinary_rows(self):
        self.assertEqual(ends_from([3, -1], 5), (2, 4))
        self.assertEqual(ends_from([-3, 1], 5), (1, 3))
        self.assertEqual(ends_from([9], 5), (5, 5))
        self.assertEqual(ends_from([], 5), (0, 5))
        self.assertEqual(ends_from([2, -1], 0), (0, 0))

    def test_all_small_rows(self):
        for days in small_rows():
            for cap in (0, 1, 2, 4):
                ends = [end for end, _, _ in all_totals(days, cap)]
                least, greatest = ends_from(days, cap)
                self.assertEqual((least, greatest), (min(ends), max(ends)), (days, cap))
                for end in range(least + 1, greatest):
                    self.assertEqual(ends.count(end), 1, (days, cap))

    def test_by_the_five(self):
        for days in small_rows():
            total, over, short, low, high = five(days, 3)
            gained = total + short - over
            self.assertEqual(ends_from(days, 3), (low + gained, high + gained))

    def test_refused(self):
        check_refusals(self, ends_from, DAYS, CAP)

    def test_asked(self):
        check_names(self, ends_from, days=[3, -1], cap=5)
        check_own(self, ends_from, [3, -1], 5)
        self.assertIs(type(ends_from([], 5)), tuple)


class Long(unittest.TestCase):
    def test_two_hundred_days(self):
        for seed, greatest in ((1, 1), (2, 40), (3, BIG)):
            days = Numbers(seed).row(200, greatest)
            for cap in (0, greatest, 9 * greatest, 60 * greatest, 400 * greatest):
                told = five(days, cap)
                self.assertTrue(is_five(cap, told))
                self.assertEqual(five(few_days(cap, told), cap), told)
                self.assertEqual(joined(cap, five(days[:77], cap), five(days[77:], cap)), told)
                _, _, _, low, high = told
                for start in {0, low // 2, low, (low + high) // 2, high, (high + cap) // 2, cap}:
                    self.assertEqual(led(cap, told, start), totals(days, cap, start))
                ends = [totals(days, cap, start)[0] for start in (0, low, high, cap)]
                self.assertEqual(ends_from(days, cap), (ends[0], ends[3]))
                self.assertEqual((ends[1], ends[2]), (ends[0], ends[3]))

    def test_steps_do_not_grow_with_the_numbers(self):
        days = Numbers(4).row(200, 30)
        for cap in (50, 2000):
            told = check_soon(self, 80 * 200, five, days, cap)
            check_soon(self, 80 * 200, ends_from, days, cap)
            check_soon(self, 200, led, cap, told, cap // 3)
            check_soon(self, 200, joined, cap, told, told)
            check_soon(self, 200, few_days, cap, told)
            check_soon(self, 200, is_five, cap, told)
        self.assertLess(steps_of(is_five, 5, tuple(range(200)))[0], 100)


if __name__ == "__main__":
    unittest.main()
