"""Points [4] and [18]: what a plan costs."""

import random
import unittest

from evenquay.evening import even
from evenquay.plans import above
from evenquay.prices import cost
from tests.samples import drawn_cases, every_plan, ladder, plans_in, slow_cost, slow_loads, small_fleets, totals_of

FLEET = [(0, 4, 5, 2), (2, 6, 3, 1)]
PLAN = [[3, 2, 0], [0, 1, 2]]

# One alone, all alike, none above nought, below and above it, with steps, and sixty.
PRICES = (
    [0], [1], [7], [-3], [5, 5, 5], [0, 0], [-4, -4], [-9, -5, -5, 0], [-2, 0, 3], [1, 2, 3, 4], [0, 0, 0, 1],
    [1, 10, 100, 1000, 10000, 100000], list(range(60)), list(range(-30, 30)), [2] * 60, [-10 ** 40, 10 ** 40],
)


def drawn_prices(source):
    return sorted(source.randint(-9, 9) for _ in range(source.randint(1, 6)))


class Cost(unittest.TestCase):
    def test_ordinary(self):
        # Loads 2, 1, 2, 1, 1, 1: two hours with a second crane.
        self.assertEqual(cost(FLEET, PLAN, [1, 2]), 6 * 1 + 2 * 2)
        self.assertEqual(cost(FLEET, PLAN, [0, 1]), 2)
        self.assertIs(type(cost(FLEET, PLAN, [1, 2])), int)

    def test_one_price_alone_holds_for_all_cranes(self):
        for price in (-7, -1, 0, 1, 10 ** 40):
            self.assertEqual(cost(FLEET, PLAN, [price]), 8 * price)

    def test_prices_that_are_all_alike(self):
        for many in (1, 2, 3, 60):
            self.assertEqual(cost(FLEET, PLAN, [3] * many), 24)

    def test_the_last_price_holds_for_all_further_cranes(self):
        fleet = [(0, 1, 10, 10)]
        self.assertEqual(cost(fleet, [[10]], [1, 2, 3]), 1 + 2 + 3 * 8)
        self.assertEqual(cost(fleet, [[10]], list(range(9))), 36 + 8)
        self.assertEqual(cost(fleet, [[10]], list(range(10))), 45)
        self.assertEqual(cost(fleet, [[10]], list(range(11))), 45)
        self.assertEqual(cost(fleet, [[10]], list(range(60))), 45)

    def test_prices_below_nought(self):
        self.assertEqual(cost([(0, 1, 3, 3)], [[3]], [-5, -1]), -7)
        self.assertEqual(cost([(0, 1, 3, 3)], [[3]], [-5, -1, 6]), 0)

    def test_no_ships_and_ships_that_want_nothing(self):
        for prices in PRICES:
            self.assertEqual(cost([], [], prices), 0)
            self.assertEqual(cost([(0, 3, 0, 2)], [[0]], prices), 0)

    def test_a_plan_that_is_not_even_costs_what_it_costs(self):
        fleet = [(0, 2, 2, 2), (1, 2, 0, 0)]
        self.assertEqual(cost(fleet, [[2, 0], [0, 0]], [1, 10]), 11)
        self.assertEqual(cost(fleet, [[1, 1], [0, 0]], [1, 10]), 2)

    def test_the_sum_over_all_hours_and_their_cranes(self):
        source = random.Random(33)
        for fleet, plan in drawn_cases(150, 8):
            for prices in PRICES + tuple(drawn_prices(source) for _ in range(3)):
                self.assertEqual(cost(fleet, plan, prices), slow_cost(fleet, plan, prices), (fleet, plan, prices))

    def test_more_prices_than_the_greatest_load_and_fewer(self):
        for fleet, plan in drawn_cases(60, 8):
            greatest = max(slow_loads(fleet, plan).values(), default=0)
            for many in {1, max(greatest - 1, 1), max(greatest, 1), greatest + 1, 60}:
                prices = [step * step - 5 for step in range(many)]
                self.assertEqual(cost(fleet, plan, prices), slow_cost(fleet, plan, prices), (fleet, plan, prices))

    def test_a_step_at_k_costs_what_is_above_k(self):
        for fleet, plan in drawn_cases(60, 8):
            for k in range(5):
                self.assertEqual(cost(fleet, plan, [0] * k + [1]), above(fleet, plan, k))


class EvenCost(unittest.TestCase):
    def test_an_even_plan_costs_no_more_than_any_plan(self):
        source = random.Random(34)
        for fleet in small_fleets(30):
            # Of the plans with the same crane hours in each stretch one stands for all.
            plans = list({tuple(totals_of(plan)): plan for plan in every_plan(fleet)}.values())
            told = even(fleet)
            for prices in PRICES + tuple(drawn_prices(source) for _ in range(4)):
                least = cost(fleet, told, prices)
                for plan in plans:
                    self.assertLessEqual(least, cost(fleet, plan, prices), (fleet, plan, prices))

    def test_some_plan_costs_more(self):
        fleets = [fleet for fleet in small_fleets(30) if plans_in(fleet) > 1]
        dearer = [fleet for fleet in fleets
                  if max(cost(fleet, plan, [0, 1, 4, 9, 16]) for plan in every_plan(fleet)[:200])
                  > cost(fleet, even(fleet), [0, 1, 4, 9, 16])]
        self.assertGreater(len(dearer), len(fleets) // 2)

    def test_through_all_eight_ships(self):
        fleet, plan = ladder()
        self.assertEqual(cost(fleet, plan, [1, 5]), 8 * 1 + 5)
        self.assertEqual(cost(fleet, even(fleet), [1, 5]), 9)


if __name__ == "__main__":
    unittest.main()
