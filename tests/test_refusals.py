"""The refusals of stages 5 to 7: a fleet that is none, and then a plan that is none of the fleet."""

import unittest

from evenquay.chains import chain, moved
from evenquay.errors import NoFleet, NoPlan
from evenquay.evening import even, reason
from evenquay.peaks import fitting, peak, too_much
from evenquay.prices import cost
from tests.refused import RefusalCase
from tests.samples import ODDITIES, one_changed

FLEET = [(0, 4, 5, 2), (2, 6, 3, 1)]
PLAN = [[3, 2, 0], [0, 1, 2]]
CHAIN = [(0, 0, 1)]

SPOILED_SHIPS = tuple(
    one_changed(FLEET[0], place, part) for place in range(4) for part in ODDITIES
) + ((4, 4, 0, 2), (5, 4, 0, 2), (0, 4, -1, 2), (0, 4, 0, -1), (0, 4, 9, 2), (0, 4, 5), (0, 4, 5, 2, 0), [0, 4, 5, 2])

WRONG_FLEETS = tuple(thing for thing in ODDITIES if thing != []) + (
    0, 1, -7, tuple(FLEET), FLEET[0], "fleet", [FLEET], (FLEET,), PLAN, [FLEET[0], None], [list(FLEET[0])],
) + tuple(one_changed(FLEET, place, ship) for place in range(2) for ship in SPOILED_SHIPS)

WRONG_PLANS = ODDITIES + (
    0, 8, tuple(PLAN), [tuple(row) for row in PLAN], PLAN[:1], PLAN + [[0, 0, 0]], [PLAN[1], PLAN[0]], [PLAN], "plan",
    [[3, 2], [0, 1, 2]], [[3, 2, 0], [0, 1, 2, 0]], [[2, 2, 0], [0, 1, 2]], [[4, 2, 0], [0, 1, 2]],
    [[5, 0, 0], [0, 1, 2]], [[2, 2, 1], [0, 1, 2]], [[6, -1, 0], [0, 1, 2]], [[3, 2, 0], [1, 0, 2]],
    [[3, 2, False], [0, 1, 2]], [[3, 2, 0], [0, True, 2]],
) + tuple(
    one_changed(PLAN, number, one_changed(PLAN[number], place, part))
    for number in range(2) for place in range(3) for part in ODDITIES
) + tuple(one_changed(PLAN, number, row) for number in range(2) for row in ODDITIES)


def asked_with_fleet(fleet):
    """Each function that takes a fleet and no plan, ready to be called."""
    return (
        lambda: even(fleet), lambda: peak(fleet), lambda: fitting(fleet, 0), lambda: fitting(fleet, 10 ** 40),
        lambda: too_much(fleet, 0), lambda: too_much(fleet, 10 ** 40),
    )


def asked_with_plan(fleet, plan):
    """Each function that takes a plan, ready to be called."""
    return (
        lambda: reason(fleet, plan, 0), lambda: reason(fleet, plan, 10 ** 40), lambda: chain(fleet, plan),
        lambda: cost(fleet, plan, [1]), lambda: cost(fleet, plan, [-10 ** 40, 0, 10 ** 40]),
        lambda: moved(fleet, plan, []), lambda: moved(fleet, plan, CHAIN),
    )


class Refusals(RefusalCase):
    def test_nothing_is_refused_that_is_as_told(self):
        for asked in asked_with_fleet(FLEET) + asked_with_fleet([]):
            asked()
        # The chain is none of a fleet without ships.
        for asked in asked_with_plan(FLEET, PLAN) + asked_with_plan([], [])[:-1]:
            asked()

    def test_no_fleet(self):
        for fleet in WRONG_FLEETS:
            for asked in asked_with_fleet(fleet):
                self.assert_refused(NoFleet, asked, fleet)

    def test_no_fleet_with_a_plan(self):
        for fleet in WRONG_FLEETS:
            for asked in asked_with_plan(fleet, PLAN):
                self.assert_refused(NoFleet, asked, fleet)

    def test_no_fleet_whatever_the_plan(self):
        for fleet in (None, "", (), tuple(FLEET), [None], [(0, 4, 9, 2), FLEET[1]], [(0, 0, 0, 0)], 3, True):
            for plan in WRONG_PLANS[:60] + ([], PLAN):
                for asked in asked_with_plan(fleet, plan):
                    self.assert_refused(NoFleet, asked, fleet, plan)

    def test_no_plan_of_the_fleet(self):
        for plan in WRONG_PLANS:
            for asked in asked_with_plan(FLEET, plan):
                self.assert_refused(NoPlan, asked, plan)

    def test_no_plan_of_no_ships(self):
        for plan in tuple(thing for thing in ODDITIES if thing != []) + (0, PLAN, "plan"):
            for asked in asked_with_plan([], plan):
                self.assert_refused(NoPlan, asked, plan)

    def test_a_plan_of_another_fleet(self):
        for fleet in ([(0, 4, 5, 2), (2, 6, 2, 1)], [(0, 4, 5, 2)], [(0, 6, 5, 2), (2, 4, 2, 1)], FLEET[::-1]):
            for asked in asked_with_plan(fleet, PLAN):
                self.assert_refused(NoPlan, asked, fleet)


if __name__ == "__main__":
    unittest.main()
