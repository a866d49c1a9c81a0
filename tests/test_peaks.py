"""Points [4] and [17]: the peak, what fits with so many cranes, and what is too much."""

import random
import unittest

from evenquay.evening import even
from evenquay.peaks import fitting, peak, too_much
from evenquay.plans import is_plan, row_of
from tests.samples import (
    GREAT_K, drawn_fleets, ladder, shifted, slow_hours, slow_loads, slow_marked, slow_peak, slow_want, small_fleets,
    turned,
)

FLEET = [(0, 4, 5, 2), (2, 6, 3, 1)]


class PeakCase(unittest.TestCase):
    def assert_fits(self, fleet, many):
        plan = fitting(fleet, many)
        self.assertIs(is_plan(fleet, plan), True, (fleet, many))
        self.assertLessEqual(max(slow_loads(fleet, plan).values(), default=0), many, (fleet, plan))
        self.assertIsNone(too_much(fleet, many), (fleet, many))

    def assert_too_much(self, fleet, many):
        self.assertIsNone(fitting(fleet, many), (fleet, many))
        marks = too_much(fleet, many)
        self.assertIs(type(marks), list)
        self.assertEqual(len(marks), len(slow_hours(fleet)))
        self.assertTrue(all(mark is True or mark is False for mark in marks), marks)
        self.assertGreater(slow_want(fleet, marks), many * slow_marked(fleet, marks), (fleet, many, marks))


class Peak(PeakCase):
    def test_ordinary(self):
        self.assertEqual(peak(FLEET), 2)
        self.assertEqual(peak([(0, 4, 4, 2), (2, 6, 2, 1)]), 1)
        self.assertEqual(peak([(0, 1, 3, 3), (0, 4, 4, 2)]), 3)
        self.assertIs(type(peak(FLEET)), int)

    def test_no_ships(self):
        self.assertEqual(peak([]), 0)
        self.assertEqual(fitting([], 0), [])
        self.assertEqual(fitting([], GREAT_K), [])
        self.assertIsNone(too_much([], 0))
        self.assertIsNone(too_much([], GREAT_K))

    def test_ships_that_want_nothing(self):
        for fleet in ([(0, 1, 0, 0)], [(0, 3, 0, 5), (1, 2, 0, 1)]):
            self.assertEqual(peak(fleet), 0)
            self.assertEqual(fitting(fleet, 0), [[0] * len(slow_hours(fleet)) for _ in fleet])
            self.assertIsNone(too_much(fleet, 0))

    def test_nought_just_where_no_ship_wants_anything(self):
        for fleet in drawn_fleets(200, 3):
            self.assertEqual(peak(fleet) == 0, all(ship[2] == 0 for ship in fleet), fleet)

    def test_one_crane_hour(self):
        fleet = [(0, 1000, 1, 1), (5, 6, 0, 3)]
        self.assertEqual(peak(fleet), 1)
        self.assert_fits(fleet, 1)
        self.assert_too_much(fleet, 0)

    def test_one_hour_more_than_the_others(self):
        self.assertEqual(peak([(0, 3, 6, 3)]), 2)
        self.assertEqual(peak([(0, 3, 7, 3)]), 3)
        self.assertEqual(peak([(0, 3, 9, 3)]), 3)

    def test_through_all_eight_ships(self):
        for step, most in ((1, 1), (2, 3)):
            fleet, _ = ladder(step, most)
            self.assertEqual(peak(fleet), most)
            self.assert_fits(fleet, most)
            self.assert_too_much(fleet, most - 1)

    def test_no_plan_has_a_less_greatest_load(self):
        for fleet in small_fleets():
            self.assertEqual(peak(fleet), slow_peak(fleet), fleet)

    def test_the_greatest_load_of_an_even_plan(self):
        for fleet in drawn_fleets(150, 8):
            self.assertEqual([peak(fleet)], [load for load, _ in row_of(fleet, even(fleet))][:1] or [0])


class SoMany(PeakCase):
    def test_from_the_peak_on_and_below_it(self):
        for fleet in small_fleets() + drawn_fleets(120, 8):
            least = peak(fleet)
            for many in list(range(least, least + 3)) + [GREAT_K]:
                self.assert_fits(fleet, many)
            for many in range(least):
                self.assert_too_much(fleet, many)

    def test_just_where_a_plan_of_a_small_fleet_fits(self):
        for fleet in small_fleets(30):
            least = slow_peak(fleet)
            for many in range(sum(ship[3] for ship in fleet) + 2):
                self.assertEqual(fitting(fleet, many) is not None, many >= least, (fleet, many))
                self.assertEqual(too_much(fleet, many) is None, many >= least, (fleet, many))


class SamePeak(unittest.TestCase):
    def test_the_ships_in_another_order(self):
        source = random.Random(31)
        for fleet in drawn_fleets(100, 8):
            self.assertEqual(peak(fleet[::-1]), peak(fleet))
            self.assertEqual(peak(source.sample(fleet, len(fleet))), peak(fleet))

    def test_all_hours_moved_along(self):
        for fleet in drawn_fleets(60, 8):
            for step in (-10 ** 15, -3, 1, 10 ** 14):
                self.assertEqual(peak(shifted(fleet, step)), peak(fleet))

    def test_time_turned_about(self):
        for fleet in drawn_fleets(100, 8):
            self.assertEqual(peak(turned(fleet)), peak(fleet))

    def test_a_ship_beside_that_wants_nothing(self):
        for fleet in drawn_fleets(60, 7):
            for ship in ((-100, -90, 0, 3), (0, 3, 0, 0), (2, 900, 0, 10)):
                self.assertEqual(peak([ship] + fleet), peak(fleet))


if __name__ == "__main__":
    unittest.main()
