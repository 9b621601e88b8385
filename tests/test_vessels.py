"""Points 4, 18 and 19: vessels one behind another."""

import itertools
import unittest

from asking import BIG, DAYS, NO_AMOUNTS, NO_LISTS, check_names, check_own, check_refusals, check_soon, refused
from listing import Numbers, small_rows
from spillmirror.errors import NoCaps
from spillmirror.runs import run
from spillmirror.vessels import vessels

NO_CAPS = NO_LISTS + [[], [1] * 13, [0] * 200, [[1]], [(1,)]]
NO_CAPS += [row for thing in NO_AMOUNTS for row in ([thing], [thing, 1], [1, thing], [1, thing, 2], [1] * 11 + [thing])]


def told_slowly(days, caps):
    """What is held, over and short, one unit after another."""
    held = [0] * len(caps)
    told = []
    for day in days:
        over, short = [0] * len(caps), [0] * len(caps)
        for _ in range(abs(day)):
            room = [content < cap for content, cap in zip(held, caps)] if day > 0 else [content > 0 for content in held]
            at = room.index(True) if True in room else len(caps)
            if at < len(caps):
                held[at] += 1 if day > 0 else -1
            for ahead in range(at):
                (over if day > 0 else short)[ahead] += 1
        told.append((list(held), over, short))
    return told


class Examples(unittest.TestCase):
    def test_an_ordinary_row(self):
        self.assertEqual(vessels([4, 5, -6, -4, 2], [3, 0, 4]), [
            ([3, 0, 1], [1, 1, 0], [0, 0, 0]),
            ([3, 0, 4], [5, 5, 2], [0, 0, 0]),
            ([0, 0, 1], [0, 0, 0], [3, 3, 0]),
            ([0, 0, 0], [0, 0, 0], [4, 4, 3]),
            ([2, 0, 0], [0, 0, 0], [0, 0, 0]),
        ])

    def test_it_is_drawn_from_the_first_one_first(self):
        self.assertEqual([contents for contents, _, _ in vessels([5, -2, -2, 1], [3, 3])],
                         [[3, 2], [1, 2], [0, 1], [1, 1]])

    def test_no_days_and_days_of_0(self):
        self.assertEqual(vessels([], [1, 2]), [])
        self.assertEqual(vessels([0], [1, 2]), [([0, 0], [0, 0], [0, 0])])

    def test_caps_of_0(self):
        self.assertEqual(vessels([3, -2], [0]), [([0], [3], [0]), ([0], [0], [2])])
        self.assertEqual(vessels([3, -2], [0, 0, 5]), [([0, 0, 3], [3, 3, 0], [0, 0, 0]),
                                                       ([0, 0, 1], [0, 0, 0], [2, 2, 0])])

    def test_twelve_vessels(self):
        self.assertEqual(vessels([7, -9], [1] * 12), [
            ([1] * 7 + [0] * 5, [6, 5, 4, 3, 2, 1] + [0] * 6, [0] * 12),
            ([0] * 12, [0] * 12, [8, 7, 6, 5, 4, 3] + [2] * 6),
        ])

    def test_all_small_rows(self):
        for days in small_rows():
            if len(days) < 5:
                for caps in ([0], [2], [1, 1], [0, 3], [3, 0], [1, 0, 2], [2, 1, 1, 5]):
                    self.assertEqual(vessels(days, caps), told_slowly(days, caps), (days, caps))

    def test_kinds(self):
        told = vessels([1, -2], [1])
        self.assertIs(type(told), list)
        for part in told:
            self.assertIs(type(part), tuple)
            self.assertEqual([type(one) for one in part], [list, list, list])
            self.assertEqual([type(one) for row in part for one in row], [int] * 3)


class Together(unittest.TestCase):
    """The first vessels together against one tank of their caps together."""

    def check(self, days, caps):
        told = vessels(days, caps)
        self.assertEqual(len(told), len(days))
        for many in range(1, len(caps) + 1):
            held, over, short = run(days, sum(caps[:many]), 0)
            self.assertEqual([sum(row[0][:many]) for row in told], held[1:], (days, caps))
            self.assertEqual([row[1][many - 1] for row in told], over, (days, caps))
            self.assertEqual([row[2][many - 1] for row in told], short, (days, caps))
        for contents, over, short in told:
            self.assertTrue(all(0 <= content <= cap for content, cap in zip(contents, caps)))

    def test_small_caps(self):
        rows = [days for days in small_rows() if len(days) <= 4]
        for caps in [*itertools.product(range(3), repeat=2), *itertools.product(range(2), repeat=3), (5,), (0,)]:
            for days in rows:
                self.check(days, list(caps))

    def test_one_to_twelve_vessels_and_two_hundred_days(self):
        for many in range(1, 13):
            for greatest in (2, 50, BIG):
                numbers = Numbers(many)
                caps = [numbers.below(greatest + 1) for _ in range(many)]
                self.check(numbers.row(200, 2 * greatest), caps)

    def test_further_vessels_change_nothing_ahead(self):
        days = Numbers(5).row(60, 9)
        caps = [4, 0, 7, 1, 30]
        for many in range(1, 5):
            self.assertEqual(vessels(days, caps[:many]),
                             [tuple(part[:many] for part in row) for row in vessels(days, caps)])


class Asked(unittest.TestCase):
    def test_refused(self):
        check_refusals(self, vessels, DAYS, ("caps", [3, 0, 4], NoCaps, NO_CAPS))
        refused(self, NoCaps, vessels, [], [])
        refused(self, NoCaps, vessels, [], [0] * 13)
        refused(self, NoCaps, vessels, [1], 5)

    def test_asked(self):
        check_names(self, vessels, days=[3, 4, -1], caps=[2, 4])
        check_own(self, vessels, [3, 0, 4, -9, 0, -2], [2, 4, 0])
        check_own(self, vessels, [0], [0])
        check_own(self, vessels, [], [5])

    def test_steps_do_not_grow_with_the_numbers(self):
        numbers = Numbers(4)
        caps = [numbers.below(20) for _ in range(12)]
        check_soon(self, 20 * 200 * 12, vessels, numbers.row(200, 100), caps)


if __name__ == "__main__":
    unittest.main()
