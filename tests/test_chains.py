"""Points [4], [15] and [16]: chains of moves, and the plan behind them."""

import random
import unittest

from evenquay.chains import chain, moved
from evenquay.evening import even
from evenquay.plans import is_plan, row_of
from tests.samples import (
    chain_faults, drawn_cases, drawn_plan, early_plan, every_plan, fewest_above, ladder, slow_above, slow_hours,
    slow_loads, slow_stretches, small_fleets, totals_of,
)


def numbers_for(fleet):
    return range(sum(ship[3] for ship in fleet) + 1)


def profile(fleet, plan):
    """The crane hours above each number."""
    return [slow_above(totals_of(plan), slow_hours(fleet), k) for k in numbers_for(fleet)]


def even_profile(fleet):
    return [fewest_above(fleet, k) for k in numbers_for(fleet)]


class ChainCase(unittest.TestCase):
    def assert_evens(self, fleet, plan, moves):
        self.assertEqual(chain_faults(fleet, plan, moves), [], (fleet, plan, moves))
        loads = slow_loads(fleet, plan)
        spans = slow_stretches(fleet)
        greatest = max(loads[hour] for hour in range(*spans[moves[0][1]]))
        least = min(loads[hour] for hour in range(*spans[moves[-1][2]]))
        self.assertGreaterEqual(greatest, least + 2, (fleet, plan, moves))

    def assert_behind(self, fleet, plan, moves):
        """Tells the plan behind the moves, reckoned here one by one."""
        wanted = [list(row) for row in plan]
        for ship, off, on in moves:
            wanted[ship][off] -= 1
            wanted[ship][on] += 1
        told = moved(fleet, plan, moves)
        self.assertEqual(told, wanted)
        self.assertIs(is_plan(fleet, told), True, (fleet, plan, moves))
        return told


class Chain(ChainCase):
    def test_one_move(self):
        self.assertEqual(chain([(0, 2, 2, 2), (1, 2, 0, 0)], [[2, 0], [0, 0]]), [(0, 0, 1)])
        self.assertEqual(chain([(0, 2, 2, 2), (1, 2, 0, 0)], [[0, 2], [0, 0]]), [(0, 1, 0)])

    def test_one_apart_is_even(self):
        self.assertIsNone(chain([(0, 2, 1, 1), (1, 2, 0, 0)], [[1, 0], [0, 0]]))
        self.assertIsNone(chain([(0, 2, 3, 3), (1, 2, 0, 0)], [[1, 2], [0, 0]]))

    def test_the_greatest_and_the_least_load_of_a_stretch_count(self):
        # Loads 2, 1, 1 and 1, 1, 0: the averages are less than two apart.
        fleet = [(0, 6, 6, 2), (3, 6, 0, 0)]
        self.assertEqual(chain(fleet, [[4, 2], [0, 0]]), [(0, 0, 1)])
        self.assertEqual(chain(fleet, [[2, 4], [0, 0]]), [(0, 1, 0)])
        self.assertIsNone(chain(fleet, [[3, 3], [0, 0]]))
        self.assertIsNone(chain([(0, 6, 7, 2), (3, 6, 0, 0)], [[4, 3], [0, 0]]))

    def test_no_room_no_move(self):
        self.assertIsNone(chain([(0, 1, 4, 4), (0, 2, 1, 1)], [[4, 0], [0, 1]]))
        self.assertEqual(chain([(0, 1, 4, 4), (0, 2, 1, 1)], [[4, 0], [1, 0]]), [(1, 0, 1)])

    def test_hours_that_no_ship_has_take_nothing(self):
        self.assertIsNone(chain([(0, 2, 6, 3), (5, 7, 1, 1)], [[6, 0, 0], [0, 0, 1]]))

    def test_no_ships(self):
        self.assertIsNone(chain([], []))

    def test_through_all_eight_ships(self):
        for step, most in ((1, 1), (1, 2), (3, 1), (4, 3)):
            fleet, plan = ladder(step, most)
            told = chain(fleet, plan)
            self.assertEqual(told, [(number, number, number + 1) for number in range(8)])
            self.assert_evens(fleet, plan, told)
            behind = self.assert_behind(fleet, plan, told)
            self.assertEqual(row_of(fleet, behind), [(most, 9 * step)])
            self.assertIsNone(chain(fleet, behind))

    def test_through_all_eight_ships_in_other_orders(self):
        source = random.Random(27)
        fleet, plan = ladder(2, 2)
        for _ in range(20):
            order = source.sample(range(8), 8)
            told = chain([fleet[number] for number in order], [plan[number] for number in order])
            self.assertEqual(told, [(order.index(number), number, number + 1) for number in range(8)])

    def test_each_chain_evens_its_plan(self):
        for fleet, plan in drawn_cases(250, 8):
            told = chain(fleet, plan)
            if told is not None:
                self.assert_evens(fleet, plan, told)

    def test_none_just_where_the_plan_is_even(self):
        for fleet in small_fleets(40):
            fewest = even_profile(fleet)
            for plan in every_plan(fleet)[:300]:
                told = chain(fleet, plan)
                self.assertEqual(told is None, profile(fleet, plan) == fewest, (fleet, plan, told))
                if told is not None:
                    self.assert_evens(fleet, plan, told)

    def test_none_of_what_even_tells(self):
        for fleet, _ in drawn_cases(150, 8):
            self.assertIsNone(chain(fleet, even(fleet)), fleet)


class Moved(ChainCase):
    def test_one_move(self):
        fleet = [(0, 2, 2, 2), (1, 2, 0, 0)]
        self.assertEqual(moved(fleet, [[2, 0], [0, 0]], [(0, 0, 1)]), [[1, 1], [0, 0]])

    def test_a_chain_that_does_not_even(self):
        fleet = [(0, 2, 2, 2), (1, 2, 0, 0)]
        self.assertEqual(moved(fleet, [[1, 1], [0, 0]], [(0, 0, 1)]), [[0, 2], [0, 0]])

    def test_all_moves_at_once(self):
        fleet = [(0, 3, 3, 2), (1, 3, 1, 1), (2, 3, 0, 0)]
        self.assertEqual(moved(fleet, [[2, 1, 0], [0, 1, 0], [0, 0, 0]], [(0, 0, 1), (1, 1, 2)]),
                         [[1, 2, 0], [0, 0, 1], [0, 0, 0]])

    def test_a_ship_that_moves_twice(self):
        fleet = [(0, 3, 3, 2), (1, 3, 1, 1), (2, 3, 0, 0)]
        self.assertEqual(moved(fleet, [[2, 1, 0], [0, 1, 0], [0, 0, 0]], [(0, 0, 1), (0, 1, 2)]),
                         [[1, 1, 1], [0, 1, 0], [0, 0, 0]])

    def test_the_plan_behind_is_evener(self):
        for fleet, plan in drawn_cases(250, 8):
            told = chain(fleet, plan)
            if told is not None:
                ahead = profile(fleet, plan)
                after = profile(fleet, self.assert_behind(fleet, plan, told))
                self.assertTrue(all(less <= more for less, more in zip(after, ahead)), (fleet, plan, told))
                self.assertNotEqual(after, ahead)


class InTurn(ChainCase):
    def last_of(self, fleet, plan):
        moves = chain(fleet, plan)
        while moves is not None:
            ahead = profile(fleet, plan)
            plan = self.assert_behind(fleet, plan, moves)
            # Each turn takes some crane hours off above some number, so the turns are few.
            self.assertLess(sum(profile(fleet, plan)), sum(ahead))
            moves = chain(fleet, plan)
        return plan

    def test_the_end_is_an_even_plan(self):
        source = random.Random(28)
        for fleet in small_fleets(40):
            for plan in (early_plan(fleet), drawn_plan(fleet, source)):
                self.assertEqual(profile(fleet, self.last_of(fleet, plan)), even_profile(fleet), (fleet, plan))

    def test_the_end_has_the_row_of_the_even_plan(self):
        for fleet, plan in drawn_cases(60, 8):
            for begun in (early_plan(fleet), plan):
                self.assertEqual(row_of(fleet, self.last_of(fleet, begun)), row_of(fleet, even(fleet)))


if __name__ == "__main__":
    unittest.main()
