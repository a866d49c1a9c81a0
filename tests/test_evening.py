"""Points [4], [13] and [14]: even plans, and the reason for each number."""

import random
import unittest

from evenquay.evening import even, reason
from evenquay.plans import above, is_plan, row_of
from tests.samples import (
    GREAT_K, drawn_fleets, fewest_above, ladder, shifted, slow_above, slow_hours, slow_loads, slow_room,
    slow_stretches, slow_totals, slow_want, small_fleets, totals_of, turned,
)

FLEET = [(0, 4, 5, 2), (2, 6, 3, 1)]


def numbers_about(fleet, plan):
    """0, each load of the plan and its neighbours, and far beyond."""
    loads = set(slow_loads(fleet, plan).values())
    about = {load + step for load in loads for step in (-1, 0, 1)}
    return sorted({0, 1, GREAT_K} | {k for k in about if k >= 0})


class Even(unittest.TestCase):
    def assert_plan(self, fleet, plan):
        """By the words of [7], held against single hours."""
        spans = slow_stretches(fleet)
        self.assertIs(type(plan), list)
        self.assertEqual(len(plan), len(fleet))
        for ship, row in zip(fleet, plan):
            self.assertIs(type(row), list)
            self.assertEqual(len(row), len(spans))
            self.assertTrue(all(type(many) is int for many in row), plan)
            self.assertTrue(all(0 <= many <= slow_room(ship, span) for many, span in zip(row, spans)), (fleet, plan))
            self.assertEqual(sum(row), ship[2], (fleet, plan))
        self.assertIs(is_plan(fleet, plan), True)

    def test_ordinary(self):
        plan = even(FLEET)
        self.assert_plan(FLEET, plan)
        self.assertEqual(row_of(FLEET, plan), [(2, 2), (1, 4)])

    def test_no_ships(self):
        self.assertEqual(even([]), [])

    def test_one_ship(self):
        self.assertEqual(even([(0, 3, 7, 3)]), [[7]])
        self.assertEqual(even([(0, 3, 0, 0)]), [[0]])
        self.assertEqual(even([(-1, 0, 9, 9)]), [[9]])

    def test_ships_that_give_way(self):
        self.assertEqual(even([(0, 1, 1, 1), (0, 2, 1, 1)]), [[1, 0], [0, 1]])
        self.assertEqual(even([(0, 2, 1, 1), (1, 2, 1, 1)]), [[1, 0], [0, 1]])

    def test_ships_that_must_stay(self):
        fleet = [(0, 1, 5, 5), (0, 3, 3, 1), (2, 3, 0, 4)]
        self.assertEqual(row_of(fleet, even(fleet)), [(6, 1), (1, 2)])

    def test_several_levels(self):
        fleet = [(0, 1, 9, 9), (0, 2, 4, 4), (0, 4, 3, 9), (3, 4, 2, 2)]
        self.assertEqual(row_of(fleet, even(fleet)), [(9, 1), (4, 1), (3, 1), (2, 1)])

    def test_hours_below_the_level_of_all_are_evened_too(self):
        # The level of all hours is 2, all fits under 3, and the first two hours have two crane hours only.
        fleet = [(0, 2, 2, 2), (1, 2, 0, 0), (2, 6, 12, 3)]
        self.assertEqual(even(fleet), [[1, 1, 0], [0, 0, 0], [0, 0, 12]])
        fleet = [(4, 6, 2, 2), (4, 5, 0, 0), (0, 4, 12, 3)]
        self.assertEqual(even(fleet), [[0, 1, 1], [0, 0, 0], [12, 0, 0]])

    def test_hours_above_the_level_of_all_are_evened_too(self):
        fleet = [(0, 2, 8, 8), (1, 2, 0, 0), (2, 9, 0, 3)]
        self.assertEqual(even(fleet), [[4, 4, 0], [0, 0, 0], [0, 0, 0]])

    def test_hours_between_that_no_ship_has(self):
        fleet = [(0, 2, 3, 2), (5, 7, 1, 1)]
        self.assertEqual(even(fleet), [[3, 0, 0], [0, 0, 1]])

    def test_ships_that_are_alike(self):
        fleet = [(0, 3, 4, 2)] * 4 + [(0, 1, 0, 1)]
        self.assertEqual(row_of(fleet, even(fleet)), [(6, 1), (5, 2)])

    def test_through_all_eight_ships(self):
        for step, most in ((1, 1), (2, 3)):
            fleet, plan = ladder(step, most)
            self.assertEqual(row_of(fleet, even(fleet)), [(most, 9 * step)])

    def test_no_plan_has_fewer_above_any_number(self):
        for fleet in small_fleets():
            plan = even(fleet)
            self.assert_plan(fleet, plan)
            hours = slow_hours(fleet)
            plans = slow_totals(fleet)
            for k in range(sum(ship[3] for ship in fleet) + 2):
                fewest = min(slow_above(totals, hours, k) for totals in plans)
                self.assertEqual(slow_above(totals_of(plan), hours, k), fewest, (fleet, plan, k))
                self.assertEqual(above(fleet, plan, k), fewest)

    def test_no_plan_has_fewer_above_with_full_or_idle_hours_beside(self):
        # The hours beside shift the level of all, and nothing else.
        for fleet in small_fleets(25):
            numbers = range(sum(ship[3] for ship in fleet) + 1)
            fewest = [fewest_above(fleet, k) for k in numbers]
            for hours, height in ((3, 2), (9, 0), (12, 1), (12, 2), (12, 3), (30, 5)):
                beside = fleet + [(20, 20 + hours, hours * height, height)]
                plan = even(beside)
                self.assert_plan(beside, plan)
                told = [above(beside, plan, k) - hours * max(height - k, 0) for k in numbers]
                self.assertEqual(told, fewest, (beside, plan))

    def test_all_even_plans_have_its_row(self):
        for fleet in small_fleets(30):
            hours = slow_hours(fleet)
            numbers = range(sum(ship[3] for ship in fleet) + 1)
            fewest = [fewest_above(fleet, k) for k in numbers]
            for totals in slow_totals(fleet):
                if [slow_above(totals, hours, k) for k in numbers] == fewest:
                    # A ship of its own in each stretch: the row is one of loads alone.
                    stiff = [(*span, many, many) for span, many in zip(slow_stretches(fleet), totals)]
                    shares = [[many if one == place else 0 for one in range(len(totals))]
                              for place, many in enumerate(totals)]
                    self.assertEqual(row_of(stiff, shares), row_of(fleet, even(fleet)), fleet)

    def test_plans_for_up_to_eight_ships(self):
        for fleet in drawn_fleets(150, 8):
            self.assert_plan(fleet, even(fleet))


class SameRow(unittest.TestCase):
    def assert_same(self, fleet, other):
        self.assertEqual(row_of(other, even(other)), row_of(fleet, even(fleet)), (fleet, other))

    def test_the_ships_in_another_order(self):
        source = random.Random(25)
        for fleet in drawn_fleets(100, 8):
            self.assert_same(fleet, fleet[::-1])
            self.assert_same(fleet, source.sample(fleet, len(fleet)))

    def test_all_hours_moved_along(self):
        for fleet in drawn_fleets(60, 8):
            for step in (-10 ** 15, -3, 1, 10 ** 14):
                self.assert_same(fleet, shifted(fleet, step))

    def test_time_turned_about(self):
        for fleet in drawn_fleets(100, 8):
            self.assert_same(fleet, turned(fleet))

    def test_a_ship_beside_that_wants_nothing(self):
        source = random.Random(26)
        for fleet in drawn_fleets(100, 7):
            if fleet:
                # Within the fleet's hours: further out it would bring hours of its own into the row.
                first = min(ship[0] for ship in fleet)
                begin, end = sorted(source.sample(range(first, max(ship[1] for ship in fleet) + 1), 2))
                place = source.randint(0, len(fleet))
                for most in (0, 1, 5):
                    self.assert_same(fleet, fleet[:place] + [(begin, end, 0, most)] + fleet[place:])


class Reason(unittest.TestCase):
    def assert_reason(self, fleet, plan, k):
        marks = reason(fleet, plan, k)
        self.assertIs(type(marks), list)
        self.assertEqual(len(marks), len(slow_stretches(fleet)))
        self.assertTrue(all(mark is True or mark is False for mark in marks), marks)
        hours = sum(length for length, mark in zip(slow_hours(fleet), marks) if mark)
        told = slow_above(totals_of(plan), slow_hours(fleet), k)
        self.assertEqual(slow_want(fleet, marks) - k * hours, told, (fleet, plan, k, marks))

    def test_ordinary(self):
        plan = even(FLEET)
        for k in range(5):
            self.assert_reason(FLEET, plan, k)

    def test_no_ships(self):
        for k in (0, 1, GREAT_K):
            self.assertEqual(reason([], [], k), [])

    def test_an_even_plan_of_the_askers_own(self):
        fleet = [(0, 2, 1, 1), (0, 2, 1, 1), (1, 2, 0, 0)]
        for plan in ([[1, 0], [0, 1], [0, 0]], [[0, 1], [1, 0], [0, 0]]):
            for k in range(3):
                self.assert_reason(fleet, plan, k)

    def test_about_each_load_and_far_beyond(self):
        for fleet in small_fleets() + drawn_fleets(100, 8):
            plan = even(fleet)
            for k in numbers_about(fleet, plan):
                self.assert_reason(fleet, plan, k)


if __name__ == "__main__":
    unittest.main()
