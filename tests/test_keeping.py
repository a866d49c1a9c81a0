"""Point [2]: what is handed in stays, and told lists are the asker's own."""

import copy
import unittest

from evenquay.dealing import cranes, load
from evenquay.fleets import is_fleet, is_ship, room, stretches
from evenquay.plans import above, is_plan, row_of
from tests.samples import ODDITIES, drawn_cases

FLEET = [(0, 4, 5, 2), (2, 6, 3, 1)]
PLAN = [[3, 2, 0], [0, 1, 2]]

# Each function with what is handed in.
CALLS = (
    (is_ship, FLEET[0]), (is_fleet, FLEET), (stretches, FLEET), (room, FLEET[0], (0, 2)),
    (is_plan, FLEET, PLAN), (above, FLEET, PLAN, 1), (row_of, FLEET, PLAN),
    (cranes, FLEET, PLAN, 1, 2), (load, FLEET, PLAN, 2),
)


class HandedIn(unittest.TestCase):
    def assert_unchanged(self, asked, *handed):
        held = copy.deepcopy(handed)
        first = asked(*handed)
        # repr tells True from 1, which == does not.
        self.assertEqual(repr(handed), repr(held), asked)
        self.assertEqual(repr(asked(*handed)), repr(first), asked)

    def test_stays_as_it_is(self):
        for call in CALLS:
            self.assert_unchanged(*call)

    def test_stays_as_it_is_where_it_is_none(self):
        for thing in ODDITIES + ([[0, 1, 1, 1]], [[3, 2, 0], [2, 1, 0]], [[3, None, 0], [0, 1, 2]]):
            self.assert_unchanged(is_ship, thing)
            self.assert_unchanged(is_fleet, thing)
            self.assert_unchanged(is_plan, FLEET, thing)

    def test_stays_as_it_is_in_drawn_cases(self):
        for fleet, plan in drawn_cases(40):
            self.assert_unchanged(is_fleet, fleet)
            self.assert_unchanged(stretches, fleet)
            self.assert_unchanged(is_plan, fleet, plan)
            self.assert_unchanged(row_of, fleet, plan)
            self.assert_unchanged(above, fleet, plan, 1)
            self.assert_unchanged(load, fleet, plan, 0)

    def test_is_not_kept(self):
        fleet = copy.deepcopy(FLEET)
        plan = copy.deepcopy(PLAN)
        self.assertEqual(row_of(fleet, plan), [(2, 2), (1, 4)])
        fleet.append((0, 1, 2, 2))
        plan[:] = [[0, 3, 2, 0], [0, 0, 1, 2], [2, 0, 0, 0]]
        self.assertEqual(stretches(fleet), [(0, 1), (1, 2), (2, 4), (4, 6)])
        self.assertIs(is_plan(fleet, [[1, 2, 2, 0], [0, 0, 1, 2], [2, 0, 0, 0]]), True)
        self.assertEqual(row_of(fleet, plan), [(3, 1), (2, 2), (1, 3)])
        self.assertEqual(above(fleet, plan, 2), 1)
        self.assertEqual(load(fleet, plan, 1), 3)
        self.assertEqual(cranes(fleet, plan, 2, 0), 2)


class Told(unittest.TestCase):
    def assert_own(self, asked, *handed):
        first = asked(*handed)
        held = list(first)
        first.append("mine")
        first.reverse()
        second = asked(*handed)
        self.assertEqual(second, held)
        self.assertIsNot(second, first)
        second.clear()
        self.assertEqual(first, ["mine"] + held[::-1])
        self.assertEqual(asked(*handed), held)

    def test_lists_are_the_askers_own(self):
        self.assert_own(stretches, FLEET)
        self.assert_own(row_of, FLEET, PLAN)

    def test_empty_lists_are_the_askers_own(self):
        self.assert_own(stretches, [])
        self.assert_own(row_of, [], [])

    def test_a_told_list_is_not_the_one_handed_in(self):
        fleet = []
        plan = []
        self.assertIsNot(stretches(fleet), fleet)
        self.assertIsNot(row_of(fleet, plan), fleet)
        self.assertIsNot(row_of(fleet, plan), plan)


if __name__ == "__main__":
    unittest.main()
