"""Point [11]: marked hours, and how much must fall into them."""

import random
import unittest

from evenquay.wants import hours_of, want
from tests.samples import (
    drawn_cases, drawn_fleets, every_marks, shifted, slow_above, slow_hours, slow_stretches, slow_totals, slow_want,
    small_fleets, totals_of,
)

# Stretches (0, 2), (2, 4), (4, 6); rooms 4, 4, 0 and 0, 2, 2.
FLEET = [(0, 4, 5, 2), (2, 6, 3, 1)]

# Stretches (0, 2), (2, 5), (5, 7); no ship has the hours 2 to 4.
APART = [(0, 2, 2, 1), (5, 7, 1, 1)]


class HoursOf(unittest.TestCase):
    def test_none_some_and_all(self):
        self.assertEqual(hours_of(APART, [False, False, False]), 0)
        self.assertEqual(hours_of(APART, [True, False, False]), 2)
        self.assertEqual(hours_of(APART, [False, True, False]), 3)
        self.assertEqual(hours_of(APART, [True, False, True]), 4)
        self.assertEqual(hours_of(APART, [True, True, True]), 7)

    def test_no_ships(self):
        self.assertEqual(hours_of([], []), 0)

    def test_below_nought(self):
        self.assertEqual(hours_of([(-9, -2, 0, 0)], [True]), 7)

    def test_as_walking_the_hours_tells(self):
        for fleet in small_fleets():
            for marks in every_marks(fleet):
                walked = sum(len(range(*span)) for span, mark in zip(slow_stretches(fleet), marks) if mark)
                self.assertEqual(hours_of(fleet, marks), walked, (fleet, marks))


class Want(unittest.TestCase):
    def test_none_some_and_all(self):
        self.assertEqual(want(FLEET, [False, False, False]), 0)
        self.assertEqual(want(FLEET, [True, False, False]), 1)
        self.assertEqual(want(FLEET, [False, True, False]), 2)
        self.assertEqual(want(FLEET, [False, False, True]), 1)
        self.assertEqual(want(FLEET, [True, True, False]), 6)
        self.assertEqual(want(FLEET, [True, False, True]), 2)
        self.assertEqual(want(FLEET, [False, True, True]), 4)
        self.assertEqual(want(FLEET, [True, True, True]), 8)

    def test_no_ships(self):
        self.assertEqual(want([], []), 0)

    def test_room_left_of_one_ship_takes_nothing_of_another(self):
        fleet = [(0, 2, 1, 5), (0, 2, 4, 2), (1, 2, 0, 0)]
        self.assertEqual(want(fleet, [True, False]), 2)
        self.assertEqual(want(fleet, [False, True]), 2)

    def test_hours_that_no_ship_has_take_nothing(self):
        self.assertEqual(want(APART, [False, True, False]), 0)
        self.assertEqual(want(APART, [True, False, True]), 3)

    def test_ships_that_want_nothing(self):
        self.assertEqual(want([(0, 3, 0, 0), (1, 2, 0, 7)], [True, True, True]), 0)

    def test_as_walking_the_hours_tells(self):
        source = random.Random(23)
        for fleet in drawn_fleets(120, 8):
            spans = slow_stretches(fleet)
            for density in (0, 1, 2, 4):
                marks = [source.randint(0, 3) < density for _ in spans]
                self.assertEqual(want(fleet, marks), slow_want(fleet, marks), (fleet, marks))

    def test_every_plan_has_it_and_some_plan_just_so_much(self):
        for fleet in small_fleets():
            plans = slow_totals(fleet)
            for marks in every_marks(fleet):
                marked = [sum(many for many, mark in zip(totals, marks) if mark) for totals in plans]
                self.assertEqual(min(marked), want(fleet, marks), (fleet, marks))

    def test_no_plan_has_less_above_than_the_want_less_k_times_the_hours(self):
        for fleet, plan in drawn_cases(60):
            for marks in every_marks(fleet)[::3]:
                for k in range(5):
                    least = want(fleet, marks) - k * hours_of(fleet, marks)
                    self.assertGreaterEqual(slow_above(totals_of(plan), slow_hours(fleet), k), least)


class OtherwiseAlike(unittest.TestCase):
    def assert_alike(self, fleet, other):
        for marks in every_marks(fleet)[:64]:
            self.assertEqual(want(other, marks), want(fleet, marks), (other, marks))
            self.assertEqual(hours_of(other, marks), hours_of(fleet, marks), (other, marks))

    def test_the_ships_in_another_order(self):
        source = random.Random(24)
        for fleet in drawn_fleets(40, 6):
            self.assert_alike(fleet, fleet[::-1])
            self.assert_alike(fleet, source.sample(fleet, len(fleet)))

    def test_all_hours_moved_along(self):
        for fleet in drawn_fleets(40, 6):
            for step in (-10 ** 15, -7, 1, 10 ** 14):
                self.assert_alike(fleet, shifted(fleet, step))

    def test_kinds(self):
        for told in (hours_of(FLEET, [True, False, True]), want(FLEET, [True, False, True]), want([], [])):
            self.assertIs(type(told), int)


if __name__ == "__main__":
    unittest.main()
