"""Point [8]: which crane hours fall into which hour."""

import unittest

from evenquay.dealing import cranes, load
from tests.samples import drawn_cases, every_plan, slow_deal, slow_loads, slow_stretches

# Stretches (0, 2), (2, 4), (4, 6).
FLEET = [(0, 4, 5, 2), (2, 6, 3, 1)]
PLAN = [[3, 2, 0], [0, 1, 2]]


def hours_about(fleet):
    """All hours of the stretches, and some ahead and behind."""
    spans = slow_stretches(fleet)
    if not spans:
        return range(-3, 4)
    return range(spans[0][0] - 3, spans[-1][1] + 3)


class Cranes(unittest.TestCase):
    def told(self, number):
        return [cranes(FLEET, PLAN, number, hour) for hour in range(-1, 7)]

    def test_about_each_bound(self):
        self.assertEqual(self.told(0), [0, 2, 1, 1, 1, 0, 0, 0])
        self.assertEqual(self.told(1), [0, 0, 0, 1, 0, 1, 1, 0])

    def test_a_ship_goes_on_where_the_one_ahead_left_off(self):
        fleet = [(0, 5, 3, 1), (0, 5, 4, 1), (0, 5, 11, 3)]
        plan = [[3], [4], [11]]
        told = [[cranes(fleet, plan, number, hour) for hour in range(5)] for number in range(3)]
        self.assertEqual(told, [[1, 1, 1, 0, 0], [1, 1, 0, 1, 1], [2, 2, 3, 2, 2]])

    def test_hours_below_nought(self):
        fleet = [(-5, -2, 4, 2)]
        self.assertEqual([cranes(fleet, [[4]], 0, hour) for hour in range(-6, -1)], [0, 2, 1, 1, 0])

    def test_an_hour_between_that_no_ship_has(self):
        fleet = [(0, 2, 2, 1), (5, 7, 1, 1)]
        plan = [[2, 0, 0], [0, 0, 1]]
        self.assertEqual([cranes(fleet, plan, 0, hour) for hour in range(8)], [1, 1, 0, 0, 0, 0, 0, 0])
        self.assertEqual([cranes(fleet, plan, 1, hour) for hour in range(8)], [0, 0, 0, 0, 0, 1, 0, 0])

    def test_as_dealing_one_by_one_tells(self):
        for fleet, plan in drawn_cases():
            dealt = slow_deal(fleet, plan)
            for number in range(len(fleet)):
                for hour in hours_about(fleet):
                    wanted = dealt.get((number, hour), 0)
                    self.assertEqual(cranes(fleet, plan, number, hour), wanted, (fleet, plan, number, hour))

    def test_the_window_has_the_need_and_no_hour_more_than_the_most(self):
        cases = drawn_cases() + [(FLEET, plan) for plan in every_plan(FLEET)]
        for fleet, plan in cases:
            for number, (begin, end, need, most) in enumerate(fleet):
                told = [cranes(fleet, plan, number, hour) for hour in range(begin, end)]
                self.assertEqual(sum(told), need)
                self.assertLessEqual(max(told), most)
                outside = [hour for hour in hours_about(fleet) if not begin <= hour < end]
                self.assertEqual([cranes(fleet, plan, number, hour) for hour in outside], [0] * len(outside))


class Load(unittest.TestCase):
    def test_about_each_bound(self):
        self.assertEqual([load(FLEET, PLAN, hour) for hour in range(-1, 7)], [0, 2, 1, 2, 1, 1, 1, 0])

    def test_no_ships(self):
        for hour in (-10 ** 15, -1, 0, 1, 10 ** 15):
            self.assertEqual(load([], [], hour), 0)

    def test_the_first_hours_have_one_more(self):
        for total in range(16):
            told = [load([(3, 8, total, 3)], [[total]], hour) for hour in range(3, 8)]
            fuller = total % 5
            self.assertEqual(told, [total // 5 + 1] * fuller + [total // 5] * (5 - fuller))

    def test_as_dealing_one_by_one_tells(self):
        for fleet, plan in drawn_cases():
            loads = slow_loads(fleet, plan)
            for hour in hours_about(fleet):
                self.assertEqual(load(fleet, plan, hour), loads.get(hour, 0), (fleet, plan, hour))

    def test_all_ships_together(self):
        for fleet, plan in drawn_cases():
            for hour in hours_about(fleet):
                together = sum(cranes(fleet, plan, number, hour) for number in range(len(fleet)))
                self.assertEqual(load(fleet, plan, hour), together)


if __name__ == "__main__":
    unittest.main()
