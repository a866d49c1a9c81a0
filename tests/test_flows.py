"""Point [12]: the most that fits under a number."""

import unittest

from evenquay.flows import under
from tests.samples import (
    GREAT_K, drawn_fleets, ladder, slow_hours, slow_room, slow_stretches, slow_totals, slow_want, small_fleets,
    totals_of,
)

FLEET = [(0, 4, 5, 2), (2, 6, 3, 1)]


def numbers_for(fleet):
    """0, about every load that a stretch may have, the sum of all mosts, and far beyond."""
    mosts = sum(ship[3] for ship in fleet)
    return list(range(mosts + 2)) + [10 * mosts + 7, GREAT_K]


class Under(unittest.TestCase):
    def assert_part(self, fleet, k, part):
        """By the words of [12], held against single hours."""
        spans = slow_stretches(fleet)
        self.assertIs(type(part), list)
        self.assertEqual(len(part), len(fleet))
        for ship, row in zip(fleet, part):
            self.assertIs(type(row), list)
            self.assertEqual(len(row), len(spans))
            for many, span in zip(row, spans):
                self.assertIs(type(many), int)
                self.assertTrue(0 <= many <= slow_room(ship, span), (fleet, k, part))
            self.assertLessEqual(sum(row), ship[2], (fleet, k, part))
        for many, hours in zip(totals_of(part), slow_hours(fleet)):
            self.assertLessEqual(many, k * hours, (fleet, k, part))

    def assert_under(self, fleet, k):
        told = under(fleet, k)
        self.assertIs(type(told), tuple)
        many, part, marks = told
        self.assertIs(type(many), int)
        self.assert_part(fleet, k, part)
        self.assertEqual(sum(map(sum, part)), many, (fleet, k))
        self.assertIs(type(marks), list)
        self.assertEqual(len(marks), len(slow_stretches(fleet)))
        self.assertTrue(all(mark is True or mark is False for mark in marks), marks)
        hours = sum(length for length, mark in zip(slow_hours(fleet), marks) if mark)
        needs = sum(ship[2] for ship in fleet)
        self.assertEqual(many, needs - slow_want(fleet, marks) + k * hours, (fleet, k))
        return many

    def test_ordinary(self):
        self.assertEqual([self.assert_under(FLEET, k) for k in range(5)], [0, 6, 8, 8, 8])

    def test_what_one_ship_takes_is_moved_for_another(self):
        fleet = [(0, 2, 1, 1), (0, 1, 1, 1)]
        self.assertEqual(self.assert_under(fleet, 1), 2)
        self.assertEqual(self.assert_under(fleet[::-1], 1), 2)
        self.assertEqual(self.assert_under([(0, 2, 1, 1), (1, 2, 1, 1)], 1), 2)

    def test_moved_through_all_eight_ships(self):
        for step, most in ((1, 1), (3, 2)):
            fleet, plan = ladder(step, most)
            self.assertEqual(self.assert_under(fleet, most), sum(ship[2] for ship in fleet))
            self.assertEqual(self.assert_under(fleet[::-1], most), sum(ship[2] for ship in fleet))

    def test_no_ships(self):
        for k in (0, 1, GREAT_K):
            self.assertEqual(under([], k), (0, [], []))

    def test_ships_that_want_nothing(self):
        for fleet in ([(0, 3, 0, 0)], [(0, 3, 0, 5), (1, 2, 0, 1)]):
            for k in (0, 1, GREAT_K):
                self.assertEqual(self.assert_under(fleet, k), 0)

    def test_nought_lets_nothing_in(self):
        for fleet in drawn_fleets(60, 8):
            self.assertEqual(self.assert_under(fleet, 0), 0)

    def test_all_fits_under_the_sum_of_all_mosts(self):
        for fleet in drawn_fleets(60, 8):
            needs = sum(ship[2] for ship in fleet)
            mosts = sum(ship[3] for ship in fleet)
            for k in (mosts, mosts + 1, GREAT_K):
                self.assertEqual(self.assert_under(fleet, k), needs)

    def test_no_part_whatever_has_more(self):
        for fleet in small_fleets(40):
            hours = slow_hours(fleet)
            parts = slow_totals(fleet, all_needs=False)
            for k in numbers_for(fleet):
                fitting = [sum(totals) for totals in parts if all(
                    many <= k * length for many, length in zip(totals, hours))]
                self.assertEqual(self.assert_under(fleet, k), max(fitting), (fleet, k))

    def test_part_and_marks_agree_for_up_to_eight_ships(self):
        for fleet in drawn_fleets(100, 8):
            for k in numbers_for(fleet):
                self.assert_under(fleet, k)


if __name__ == "__main__":
    unittest.main()
