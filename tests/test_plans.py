"""Points [7], [9] and [10]: plans, the crane hours above a number, and the row."""

import itertools
import unittest

from evenquay.plans import above, is_plan, row_of
from tests.samples import ODDITIES, drawn_cases, every_plan, one_changed, slow_loads, slow_room, slow_stretches

# Stretches (0, 2), (2, 4), (4, 6); rooms 4, 4, 0 and 0, 2, 2.
FLEET = [(0, 4, 5, 2), (2, 6, 3, 1)]
PLAN = [[3, 2, 0], [0, 1, 2]]

# Stretches (0, 2), (2, 5), (5, 7); no ship has the hours 2 to 4.
APART = [(0, 2, 2, 1), (5, 7, 1, 1)]
APART_PLAN = [[2, 0, 0], [0, 0, 1]]


class IsPlan(unittest.TestCase):
    def assert_plan(self, fleet, thing):
        self.assertIs(is_plan(fleet, thing), True, thing)

    def assert_no_plan(self, fleet, thing):
        self.assertIs(is_plan(fleet, thing), False, thing)

    def test_plans(self):
        self.assert_plan(FLEET, PLAN)
        self.assert_plan(APART, APART_PLAN)
        self.assert_plan(FLEET, [[1, 4, 0], [0, 2, 1]])
        self.assert_plan(FLEET, [[4, 1, 0], [0, 1, 2]])

    def test_no_ships(self):
        self.assert_plan([], [])
        for thing in ODDITIES:
            self.assertIs(is_plan([], thing), thing == [], thing)

    def test_a_ship_that_wants_nothing(self):
        self.assert_plan([(0, 3, 0, 0)], [[0]])
        self.assert_plan([(0, 3, 0, 2)], [[0]])
        self.assert_no_plan([(0, 3, 0, 2)], [[1]])

    def test_one_more_and_one_fewer(self):
        for number, place in itertools.product(range(2), range(3)):
            for step in (1, -1):
                row = one_changed(PLAN[number], place, PLAN[number][place] + step)
                self.assert_no_plan(FLEET, one_changed(PLAN, number, row))

    def test_moved_within_the_rooms_and_out_of_them(self):
        self.assert_plan(FLEET, [[2, 3, 0], [0, 1, 2]])
        self.assert_plan(FLEET, [[3, 2, 0], [0, 2, 1]])
        self.assert_no_plan(FLEET, [[2, 2, 1], [0, 1, 2]])
        self.assert_no_plan(FLEET, [[3, 2, 0], [1, 0, 2]])

    def test_moved_from_ship_to_ship(self):
        self.assert_no_plan(FLEET, [[3, 1, 0], [0, 2, 2]])

    def test_below_nought(self):
        self.assert_no_plan([(0, 2, 1, 1), (1, 2, 0, 0)], [[-1, 2], [0, 0]])
        self.assert_no_plan([(0, 4, 1, 1), (2, 4, 0, 0)], [[2, -1], [0, 0]])
        self.assert_no_plan(FLEET, [[3, 2, 0], [-1, 2, 2]])
        self.assert_no_plan([(0, 1, 0, 1)], [[-1]])

    def test_above_the_room(self):
        self.assert_no_plan(FLEET, [[5, 0, 0], [0, 1, 2]])
        self.assert_no_plan(FLEET, [[0, 5, 0], [0, 1, 2]])
        self.assert_no_plan(FLEET, [[3, 2, 0], [0, 0, 3]])

    def test_a_truth_is_no_whole_number(self):
        self.assert_no_plan(FLEET, [[3, 2, 0], [0, True, 2]])
        self.assert_no_plan(FLEET, [[3, 2, False], [0, 1, 2]])
        self.assert_no_plan([(0, 1, 1, 1)], [[True]])
        self.assert_no_plan([(0, 1, 0, 1)], [[False]])

    def test_anything_in_a_numbers_place(self):
        for number, place in itertools.product(range(2), range(3)):
            for wrong in ODDITIES:
                row = one_changed(PLAN[number], place, wrong)
                self.assert_no_plan(FLEET, one_changed(PLAN, number, row))

    def test_anything_in_a_rows_place(self):
        for number in range(2):
            for wrong in ODDITIES + (0, 5, "320", (3, 2, 0), (0, 1, 2)):
                self.assert_no_plan(FLEET, one_changed(PLAN, number, wrong))

    def test_rows_shorter_and_longer(self):
        for row in ([3, 2], [5], [3, 2, 0, 0], [0, 3, 2, 0], []):
            self.assert_no_plan(FLEET, [row, [0, 1, 2]])
        self.assert_no_plan(FLEET, [[3, 2, 0], [1, 2]])
        self.assert_no_plan(FLEET, [[3, 2, 0], [0, 1, 2, 0]])

    def test_a_list_shorter_and_longer(self):
        for thing in ([], [PLAN[0]], [PLAN[1]], PLAN + [[0, 0, 0]], PLAN + [[]], PLAN + PLAN, [PLAN]):
            self.assert_no_plan(FLEET, thing)

    def test_the_rows_the_other_way_round(self):
        self.assert_no_plan(FLEET, [PLAN[1], PLAN[0]])

    def test_anything_in_the_plans_place(self):
        for thing in ODDITIES + (0, tuple(PLAN), "ab", None, PLAN[0], (tuple(PLAN[0]), tuple(PLAN[1]))):
            self.assert_no_plan(FLEET, thing)

    def test_just_the_plans_are_plans(self):
        fleet = [(0, 2, 2, 1), (1, 3, 1, 2)]
        plans = every_plan(fleet)
        for numbers in itertools.product(range(-1, 3), repeat=6):
            thing = [list(numbers[:3]), list(numbers[3:])]
            self.assertIs(is_plan(fleet, thing), thing in plans, thing)

    def test_drawn_plans_and_their_neighbours(self):
        for fleet, plan in drawn_cases():
            self.assert_plan(fleet, plan)
            for number, place in itertools.product(range(len(plan)), range(len(slow_stretches(fleet)))):
                row = one_changed(plan[number], place, plan[number][place] + 1)
                self.assert_no_plan(fleet, one_changed(plan, number, row))

    def test_drawn_plans_with_one_beyond_the_room(self):
        for fleet, plan in drawn_cases():
            for number, ship in enumerate(fleet):
                for place, stretch in enumerate(slow_stretches(fleet)):
                    beyond = slow_room(ship, stretch) + 1
                    row = one_changed(plan[number], place, beyond)
                    # Another ship's need, so that the sum is right and the room alone is passed.
                    needing = one_changed(ship, 2, sum(row))
                    thing = one_changed(plan, number, row)
                    self.assert_no_plan(one_changed(fleet, number, needing), thing)


class Above(unittest.TestCase):
    def test_nought_tells_all_crane_hours(self):
        self.assertEqual(above(FLEET, PLAN, 0), 8)
        self.assertEqual(above(APART, APART_PLAN, 0), 3)

    def test_about_a_stretchs_load(self):
        self.assertEqual(above(FLEET, PLAN, 1), 2)
        self.assertEqual(above(FLEET, PLAN, 2), 0)
        fleet = [(0, 3, 11, 5)]
        self.assertEqual([above(fleet, [[11]], k) for k in range(6)], [11, 8, 5, 2, 0, 0])

    def test_one_stretch_does_not_make_up_for_another(self):
        fleet = [(0, 1, 5, 5), (1, 9, 0, 1)]
        self.assertEqual(above(fleet, [[5, 0], [0, 0]], 3), 2)

    def test_far_beyond(self):
        for k in (3, 100, 10 ** 40):
            self.assertEqual(above(FLEET, PLAN, k), 0)

    def test_no_ships(self):
        for k in (0, 1, 10 ** 40):
            self.assertEqual(above([], [], k), 0)

    def test_as_walking_the_hours_tells(self):
        for fleet, plan in drawn_cases():
            loads = slow_loads(fleet, plan).values()
            for k in range(max(loads, default=0) + 2):
                self.assertEqual(above(fleet, plan, k), sum(max(load - k, 0) for load in loads), (fleet, plan, k))


class RowOf(unittest.TestCase):
    def test_falling_loads_counted(self):
        self.assertEqual(row_of(FLEET, PLAN), [(2, 2), (1, 4)])
        self.assertEqual(row_of([(0, 3, 11, 5)], [[11]]), [(4, 2), (3, 1)])
        self.assertEqual(row_of([(0, 3, 12, 5)], [[12]]), [(4, 3)])

    def test_hours_without_load(self):
        self.assertEqual(row_of(APART, APART_PLAN), [(1, 3), (0, 4)])
        self.assertEqual(row_of([(0, 3, 0, 0)], [[0]]), [(0, 3)])

    def test_a_load_of_several_stretches_stands_once(self):
        fleet = [(0, 2, 2, 1), (4, 7, 3, 1), (2, 4, 4, 2)]
        self.assertEqual(row_of(fleet, [[2, 0, 0], [0, 0, 3], [0, 4, 0]]), [(2, 2), (1, 5)])

    def test_loads_past_nine_fall_by_number(self):
        fleet = [(0, 1, 9, 9), (1, 2, 10, 10), (2, 3, 100, 100)]
        self.assertEqual(row_of(fleet, [[9, 0, 0], [0, 10, 0], [0, 0, 100]]), [(100, 1), (10, 1), (9, 1)])

    def test_no_ships(self):
        self.assertEqual(row_of([], []), [])

    def test_a_list_of_tuples(self):
        told = row_of(FLEET, PLAN)
        self.assertIsInstance(told, list)
        for counted in told:
            self.assertIsInstance(counted, tuple)

    def test_as_walking_the_hours_tells(self):
        for fleet, plan in drawn_cases():
            loads = list(slow_loads(fleet, plan).values())
            wanted = [(load, loads.count(load)) for load in sorted(set(loads), reverse=True)]
            self.assertEqual(row_of(fleet, plan), wanted, (fleet, plan))


if __name__ == "__main__":
    unittest.main()
