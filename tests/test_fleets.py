"""Points [5] and [6]: ships, fleets, stretches and rooms."""

import unittest

from evenquay.fleets import is_fleet, is_ship, room, stretches
from tests.samples import FAR, ODDITIES, drawn_fleets, one_changed, slow_room, slow_stretches

SHIPS = (
    (0, 1, 0, 0),
    (0, 1, 1, 1),
    (0, 1, 0, 1),
    (-3, 4, 6, 2),
    (-3, -2, 5, 9),
    (2, 5, 6, 2),
    (-FAR, FAR, 2 * 10 ** 30, 10 ** 15),
)

NO_SHIPS = (
    (0, 0, 0, 0),
    (0, 0, 0, 1),
    (1, 0, 0, 1),
    (5, -5, 0, 1),
    (0, 1, -1, 1),
    (0, 1, 0, -1),
    (0, 1, -1, -1),
    (0, 3, -2, -1),
    (1, 0, 1, -1),
    (0, 1, 1, 0),
    (2, 5, 7, 2),
    (-FAR, FAR, 2 * 10 ** 30 + 1, 10 ** 15),
    (0, 1, 1),
    (0, 1, 1, 1, 1),
    (),
    [0, 1, 1, 1],
    "0111",
    0,
    1,
    ((0, 1, 1, 1),),
    [(0, 1, 1, 1)],
)


class IsShip(unittest.TestCase):
    def test_ships(self):
        for ship in SHIPS:
            self.assertIs(is_ship(ship), True, ship)

    def test_no_ships(self):
        for thing in NO_SHIPS + ODDITIES:
            self.assertIs(is_ship(thing), False, thing)

    def test_a_wrong_part_at_each_place(self):
        for ship in SHIPS:
            for place in range(4):
                for part in ODDITIES:
                    thing = one_changed(ship, place, part)
                    self.assertIs(is_ship(thing), False, thing)

    def test_a_truth_is_no_whole_number(self):
        for thing in ((False, 1, 1, 1), (0, True, 1, 1), (0, 1, True, 1), (0, 1, 1, True), (0, 1, False, 0)):
            self.assertIs(is_ship(thing), False, thing)

    def test_all_parts_wrong(self):
        for part in ODDITIES:
            self.assertIs(is_ship((part,) * 4), False, part)

    def test_need_just_at_and_beyond_the_room(self):
        for most in range(4):
            for hours in range(1, 5):
                self.assertIs(is_ship((7, 7 + hours, most * hours, most)), True)
                self.assertIs(is_ship((7, 7 + hours, most * hours + 1, most)), False)

    def test_end_about_begin(self):
        for begin in (-FAR, -1, 0, 1, FAR - 1):
            self.assertIs(is_ship((begin, begin + 1, 0, 0)), True)
            self.assertIs(is_ship((begin, begin, 0, 0)), False)
            self.assertIs(is_ship((begin, begin - 1, 0, 0)), False)


class IsFleet(unittest.TestCase):
    def test_fleets(self):
        for fleet in ([], list(SHIPS), [SHIPS[1], SHIPS[1]], [SHIPS[0]]):
            self.assertIs(is_fleet(fleet), True, fleet)

    def test_a_tuple_or_a_lone_ship_is_no_fleet(self):
        for thing in ((), SHIPS, (SHIPS[1],), SHIPS[1], "", 0, None, True):
            self.assertIs(is_fleet(thing), False, thing)

    def test_anything_else_is_no_fleet(self):
        for thing in ODDITIES:
            self.assertIs(is_fleet(thing), thing == [], thing)

    def test_one_wrong_ship_at_any_place(self):
        fleet = list(SHIPS[:3])
        for place in range(3):
            for wrong in NO_SHIPS + ODDITIES:
                thing = one_changed(fleet, place, wrong)
                self.assertIs(is_fleet(thing), False, thing)

    def test_a_ship_as_a_list_is_none(self):
        self.assertIs(is_fleet([[0, 1, 1, 1]]), False)


class Stretches(unittest.TestCase):
    def told(self, *windows):
        return stretches([(begin, end, 0, 1) for begin, end in windows])

    def test_no_ships(self):
        self.assertEqual(stretches([]), [])

    def test_one_ship(self):
        self.assertEqual(self.told((-2, 5)), [(-2, 5)])
        self.assertEqual(self.told((0, 1)), [(0, 1)])

    def test_ships_that_touch(self):
        self.assertEqual(self.told((0, 2), (2, 5)), [(0, 2), (2, 5)])
        self.assertEqual(self.told((2, 5), (0, 2)), [(0, 2), (2, 5)])

    def test_ships_that_overlap(self):
        self.assertEqual(self.told((0, 4), (2, 6)), [(0, 2), (2, 4), (4, 6)])
        self.assertEqual(self.told((0, 9), (3, 4)), [(0, 3), (3, 4), (4, 9)])
        self.assertEqual(self.told((0, 9), (0, 4)), [(0, 4), (4, 9)])
        self.assertEqual(self.told((0, 9), (4, 9)), [(0, 4), (4, 9)])

    def test_hours_between_that_no_ship_has(self):
        self.assertEqual(self.told((5, 7), (-1, 2)), [(-1, 2), (2, 5), (5, 7)])

    def test_ships_that_are_alike(self):
        self.assertEqual(self.told((1, 3), (1, 3)), [(1, 3)])
        self.assertEqual(self.told((1, 3), (2, 3), (1, 3), (2, 3)), [(1, 2), (2, 3)])

    def test_ships_that_want_nothing_have_bounds_too(self):
        self.assertEqual(stretches([(0, 4, 4, 1), (1, 2, 0, 0)]), [(0, 1), (1, 2), (2, 4)])

    def test_a_list_of_tuples(self):
        told = self.told((0, 4), (2, 6))
        self.assertIsInstance(told, list)
        for stretch in told:
            self.assertIsInstance(stretch, tuple)

    def test_as_walking_the_hours_tells(self):
        for fleet in drawn_fleets(400, 8):
            self.assertEqual(stretches(fleet), slow_stretches(fleet), fleet)


class Room(unittest.TestCase):
    ship = (2, 8, 5, 3)

    def test_in_the_window(self):
        self.assertEqual(room(self.ship, (3, 5)), 6)
        self.assertEqual(room(self.ship, (2, 3)), 3)
        self.assertEqual(room(self.ship, (7, 8)), 3)

    def test_over_the_whole_window(self):
        self.assertEqual(room(self.ship, (2, 8)), 18)

    def test_ahead_of_the_window(self):
        self.assertEqual(room(self.ship, (0, 2)), 0)
        self.assertEqual(room(self.ship, (-9, -3)), 0)

    def test_behind_the_window(self):
        self.assertEqual(room(self.ship, (8, 9)), 0)
        self.assertEqual(room(self.ship, (20, 31)), 0)

    def test_no_cranes_no_room(self):
        self.assertEqual(room((2, 8, 0, 0), (3, 5)), 0)

    def test_need_does_not_count(self):
        self.assertEqual(room((2, 8, 0, 3), (3, 5)), 6)

    def test_as_walking_the_hours_tells(self):
        for fleet in drawn_fleets(200, 8):
            for stretch in slow_stretches(fleet):
                for ship in fleet:
                    self.assertEqual(room(ship, stretch), slow_room(ship, stretch))


if __name__ == "__main__":
    unittest.main()
