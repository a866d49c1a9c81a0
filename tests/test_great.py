"""Point [3]: the greatest things that are promised are answered at once."""

import unittest

from evenquay.dealing import cranes, load
from evenquay.fleets import is_fleet, is_ship, room, stretches
from evenquay.plans import above, is_plan, row_of
from tests.samples import (
    FAR, GREAT_K, GREAT_MOST, GREAT_NEED, at_once, great_case, great_stretches, one_changed, overlap_room,
)


class Great(unittest.TestCase):
    def setUp(self):
        self.fleet, self.plan = great_case()

    def test_ships_and_fleets(self):
        with at_once():
            self.assertIs(is_fleet(self.fleet), True)
            for ship in self.fleet:
                self.assertIs(is_ship(ship), True)
            self.assertIs(is_ship((-FAR, FAR, GREAT_NEED + 1, GREAT_MOST)), False)
            self.assertIs(is_fleet(self.fleet[:7] + [(FAR, -FAR, 0, 0)]), False)

    def test_stretches_and_rooms(self):
        with at_once():
            self.assertEqual(stretches(self.fleet), great_stretches())
            for ship in self.fleet:
                for stretch in great_stretches():
                    self.assertEqual(room(ship, stretch), overlap_room(ship, stretch))
            self.assertEqual(room(self.fleet[0], (-FAR, FAR)), GREAT_NEED)

    def test_plans(self):
        with at_once():
            self.assertIs(is_plan(self.fleet, self.plan), True)
            for place in range(5):
                for step in (1, -1):
                    row = one_changed(self.plan[0], place, self.plan[0][place] + step)
                    self.assertIs(is_plan(self.fleet, one_changed(self.plan, 0, row)), False)

    def test_above(self):
        needs = sum(ship[2] for ship in self.fleet)
        # Stretch by stretch: loads of 3, 2, 2, 3 and 4 times the most, and a few crane hours more or fewer.
        over_two_mosts = GREAT_MOST + 7 + 0 + (FAR - 1) * GREAT_MOST + (2 * GREAT_MOST - 1)
        with at_once():
            self.assertEqual(above(self.fleet, self.plan, 0), needs)
            self.assertEqual(above(self.fleet, self.plan, 2 * GREAT_MOST), over_two_mosts)
            self.assertEqual(above(self.fleet, self.plan, 8 * GREAT_MOST), 0)
            self.assertEqual(above(self.fleet, self.plan, GREAT_K), 0)

    def test_row(self):
        with at_once():
            self.assertEqual(row_of(self.fleet, self.plan), [
                (4 * GREAT_MOST - 1, 1),
                (3 * GREAT_MOST, FAR),
                (2 * GREAT_MOST + 1, 7),
                (2 * GREAT_MOST, FAR - 8),
            ])

    def test_dealing(self):
        with at_once():
            told = [load(self.fleet, self.plan, hour) for hour in (-FAR - 1, -FAR, -1, 0, FAR - 1, FAR)]
            self.assertEqual(told, [
                0, 3 * GREAT_MOST, 2 * GREAT_MOST, 3 * GREAT_MOST, 4 * GREAT_MOST - 1, 0,
            ])
            self.assertEqual(load(self.fleet, self.plan, -FAR + 7), 2 * GREAT_MOST + 1)
            self.assertEqual(load(self.fleet, self.plan, -FAR + 8), 2 * GREAT_MOST)
            self.assertEqual(load(self.fleet, self.plan, -2), 2 * GREAT_MOST)

    def test_dealing_by_ships(self):
        with at_once():
            self.assertEqual(cranes(self.fleet, self.plan, 0, FAR // 2), GREAT_MOST)
            self.assertEqual(cranes(self.fleet, self.plan, 1, -1), GREAT_MOST - 1)
            self.assertEqual(cranes(self.fleet, self.plan, 3, -FAR + 7), 1)
            self.assertEqual(cranes(self.fleet, self.plan, 3, -FAR + 8), 0)
            self.assertEqual(cranes(self.fleet, self.plan, 4, -FAR), GREAT_MOST)
            self.assertEqual(cranes(self.fleet, self.plan, 5, FAR - 1), GREAT_MOST - 1)
            self.assertEqual(cranes(self.fleet, self.plan, 7, FAR), 0)

    def test_somewhat_beyond_is_not_refused(self):
        fleet = self.fleet + [(-2 * FAR, 3 * FAR, 5, 4 * GREAT_MOST)]
        with at_once():
            self.assertIs(is_fleet(fleet), True)
            self.assertEqual(len(stretches(fleet)), 7)
            self.assertEqual(above([], [], GREAT_K + 1), 0)


if __name__ == "__main__":
    unittest.main()
