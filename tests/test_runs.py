"""Points 1 to 3, 5 and 6: is_days, run, totals."""

import itertools
import unittest

from listing import OTHERS, Numbers, steps_of
from spillmirror.errors import NoCap, NoDays, NoStart
from spillmirror.runs import is_days, run, totals

BIG = 10 ** 15 - 1


def told_slowly(days, cap, start):
    """The run, one unit after another."""
    contents, spilled, lacking = [start], [], []
    for day in days:
        content, over, short = contents[-1], 0, 0
        for _ in range(abs(day)):
            if day > 0 and content < cap:
                content += 1
            elif day > 0:
                over += 1
            elif content > 0:
                content -= 1
            else:
                short += 1
        contents.append(content)
        spilled.append(over)
        lacking.append(short)
    return contents, spilled, lacking


class IsDays(unittest.TestCase):
    def test_rows(self):
        for row in ([], [0], [0, 0], [5, -3, 0], [BIG, -BIG], [1] * 200, [10 ** 40]):
            self.assertIs(is_days(row), True, row)

    def test_other_things(self):
        for thing in [(), (1, 2), "12", "", b"12", None, 5, 0, True, {}, {1: 2}, {1}, range(3), iter([1]), object(), list]:
            self.assertIs(is_days(thing), False, thing)

    def test_lists_of_other_things(self):
        for thing in OTHERS:
            self.assertIs(is_days([thing]), False, thing)
            self.assertIs(is_days([1, thing, 2]), False, thing)
            self.assertIs(is_days([1, 2, thing]), False, thing)

    def test_by_name(self):
        self.assertIs(is_days(thing=[1]), True)

    def test_deep_things(self):
        deep = []
        for _ in range(40):
            deep = [deep]
        self.assertIs(is_days(deep), False)


class Run(unittest.TestCase):
    def test_an_ordinary_row(self):
        self.assertEqual(run([3, 4, -1, -9, 2], 5, 1),
                         ([1, 4, 5, 4, 0, 2], [0, 3, 0, 0, 0], [0, 0, 0, 5, 0]))
        self.assertEqual(totals([3, 4, -1, -9, 2], 5, 1), (2, 3, 5))

    def test_the_empty_row(self):
        self.assertEqual(run([], 5, 2), ([2], [], []))
        self.assertEqual(run([], 0, 0), ([0], [], []))
        self.assertEqual(totals([], 5, 2), (2, 0, 0))

    def test_days_of_nothing(self):
        self.assertEqual(run([0, 0], 5, 2), ([2, 2, 2], [0, 0], [0, 0]))
        self.assertEqual(run([0, 5, 0], 0, 0), ([0, 0, 0, 0], [0, 5, 0], [0, 0, 0]))

    def test_the_cap_0(self):
        self.assertEqual(run([2, -3, 0], 0, 0), ([0, 0, 0, 0], [2, 0, 0], [0, 3, 0]))
        self.assertEqual(totals([2, -3, 0], 0, 0), (0, 2, 3))

    def test_starts_of_0_and_of_the_cap(self):
        self.assertEqual(run([1, -1], 3, 0), ([0, 1, 0], [0, 0], [0, 0]))
        self.assertEqual(run([1, -1], 3, 3), ([3, 3, 2], [1, 0], [0, 0]))

    def test_days_greater_than_the_cap(self):
        self.assertEqual(run([10, -10], 4, 1), ([1, 4, 0], [7, 0], [0, 6]))
        self.assertEqual(run([-10, 10], 4, 1), ([1, 0, 4], [0, 6], [9, 0]))

    def test_just_full_and_just_empty(self):
        self.assertEqual(run([3, -4], 4, 1), ([1, 4, 0], [0, 0], [0, 0]))

    def test_numbers_of_fifteen_figures(self):
        self.assertEqual(run([BIG, BIG, -BIG, -BIG], BIG, 0),
                         ([0, BIG, BIG, 0, 0], [0, BIG, 0, 0], [0, 0, 0, BIG]))
        self.assertEqual(totals([BIG] * 200, BIG, BIG), (BIG, 200 * BIG, 0))
        self.assertEqual(totals([-BIG] * 200, BIG, 1), (0, 0, 200 * BIG - 1))

    def test_all_small_rows(self):
        for many_days in range(5):
            for days in map(list, itertools.product((-3, -1, 0, 1, 2), repeat=many_days)):
                for cap, start in ((0, 0), (1, 0), (1, 1), (2, 1), (4, 0), (4, 4)):
                    told = told_slowly(days, cap, start)
                    self.assertEqual(run(days, cap, start), told)
                    self.assertEqual(totals(days, cap, start), (told[0][-1], sum(told[1]), sum(told[2])))

    def test_kinds(self):
        told = run([1], 2, 0)
        self.assertIs(type(told), tuple)
        self.assertEqual([type(part) for part in told], [list] * 3)
        self.assertIs(type(totals([1], 2, 0)), tuple)

    def test_by_names(self):
        self.assertEqual(run(start=1, cap=2, days=[3]), ([1, 2], [2], [0]))
        self.assertEqual(totals(start=1, cap=2, days=[3]), (2, 2, 0))


class Own(unittest.TestCase):
    def test_what_is_told_is_new(self):
        days = [3, -9]
        first = run(days, 2, 1)
        kept = ([1, 2, 0], [2, 0], [0, 7])
        self.assertEqual(first, kept)
        for part in first:
            part.append(99)
            part[0] = 77
        self.assertEqual(run(days, 2, 1), kept)
        self.assertEqual(days, [3, -9])

    def test_no_two_lists_are_one(self):
        for days in ([], [0], [1, 2]):
            parts = [*run(days, 5, 0), days]
            self.assertEqual(len({id(part) for part in parts}), 4)

    def test_days_stay_and_may_be_changed_later(self):
        days = [4, 0, -1]
        told = run(days, 3, 0)
        totals(days, 3, 0)
        is_days(days)
        self.assertEqual(days, [4, 0, -1])
        days[0] = 1
        days.append(5)
        self.assertEqual(told, ([0, 3, 3, 2], [1, 0, 0], [0, 0, 0]))
        self.assertEqual(totals(days, 3, 0), (3, 2, 0))


class Refused(unittest.TestCase):
    def refused(self, error, *arguments):
        for function in (run, totals):
            with self.subTest(function=function, arguments=arguments), self.assertRaises(Exception) as caught:
                function(*arguments)
            self.assertIs(type(caught.exception), error)

    def test_no_days(self):
        for days in [(1, 2), None, "12", 5, True, {}, {1}]:
            self.refused(NoDays, days, 5, 0)
        for thing in OTHERS:
            self.refused(NoDays, [1, thing], 5, 0)

    def test_no_cap(self):
        for cap in OTHERS + [-1, -BIG]:
            self.refused(NoCap, [1], cap, 0)

    def test_no_start(self):
        for start in OTHERS + [-1, 6, BIG]:
            self.refused(NoStart, [1], 5, start)
        self.refused(NoStart, [], 0, 1)
        self.refused(NoStart, [], 1, True)

    def test_two_at_once(self):
        for days, cap, start in itertools.product(([1], [True], None), (5, -1, True, None), (0, 6, None, "0")):
            due = [NoDays] if days is None or days[0] is True else []
            due += [NoCap] if cap != 5 else []
            due += [NoStart] if start != 0 else []
            if due:
                self.refused(due[0], days, cap, start)

    def test_three_at_once(self):
        self.refused(NoDays, "1", "2", "3")
        self.refused(NoDays, [1, "1"], 5, "3")
        self.refused(NoCap, [1], "2", "3")
        self.refused(NoCap, [1], -1, 3)


class Soon(unittest.TestCase):
    def test_two_hundred_days(self):
        for function in (run, totals):
            small = Numbers(7).row(200, 9)
            steps, told = steps_of(function, small, 20, 3)
            self.assertLess(steps, 40 * 200)
            big = [day * 10 ** 14 for day in small]
            more, big_told = steps_of(function, big, 20 * 10 ** 14, 3 * 10 ** 14)
            self.assertEqual(more, steps)
            if function is run:
                self.assertEqual(told, told_slowly(small, 20, 3))
                self.assertEqual(big_told, tuple([n * 10 ** 14 for n in part] for part in told))
            else:
                self.assertEqual(big_told, tuple(n * 10 ** 14 for n in told))


if __name__ == "__main__":
    unittest.main()
