"""Point [3]: the greatest things that are promised are answered at once."""

import unittest

from evenquay.chains import chain, moved
from evenquay.dealing import cranes, load
from evenquay.desk import Desk
from evenquay.evening import even, reason
from evenquay.fleets import is_fleet, is_ship, room, stretches
from evenquay.flows import under
from evenquay.peaks import fitting, peak, too_much
from evenquay.plans import above, is_plan, row_of
from evenquay.prices import cost
from evenquay.texts import read_fleet, show_fleet
from evenquay.wants import hours_of, want
from tests.samples import (
    FAR, GREAT_K, GREAT_MOST, GREAT_NEED, at_once, chain_faults, early_plan, far_stretches, great_case, great_fleets,
    great_stretches, ladder, one_changed, overlap_room, told_text, totals_of,
)


def numbers_about(fleet, plan):
    """0, the sum of all mosts, each load of the plan and its neighbours, and far beyond."""
    about = {height + step for height, _ in row_of(fleet, plan) for step in (-1, 0, 1)}
    return sorted({0, sum(ship[3] for ship in fleet), GREAT_K} | {k for k in about if k >= 0})


class Great(unittest.TestCase):
    def setUp(self):
        self.fleet, self.plan = great_case()

    def test_ships_and_fleets(self):
        with at_once():
            self.assertIs(is_fleet(self.fleet), True)
            for ship in self.fleet:
                self.assertIs(is_ship(ship), True)
            self.assertIs(is_ship((-FAR, FAR, GREAT_NEED + 1, GREAT_MOST)), False)
            self.assertIs(is_fleet(self.fleet[:7] + [(FAR, -FAR, 0, 0)]), False)

    def test_stretches_and_rooms(self):
        with at_once():
            self.assertEqual(stretches(self.fleet), great_stretches())
            for ship in self.fleet:
                for stretch in great_stretches():
                    self.assertEqual(room(ship, stretch), overlap_room(ship, stretch))
            self.assertEqual(room(self.fleet[0], (-FAR, FAR)), GREAT_NEED)

    def test_plans(self):
        with at_once():
            self.assertIs(is_plan(self.fleet, self.plan), True)
            for place in range(5):
                for step in (1, -1):
                    row = one_changed(self.plan[0], place, self.plan[0][place] + step)
                    self.assertIs(is_plan(self.fleet, one_changed(self.plan, 0, row)), False)

    def test_above(self):
        needs = sum(ship[2] for ship in self.fleet)
        # Stretch by stretch: loads of 3, 2, 2, 3 and 4 times the most, and a few crane hours more or fewer.
        over_two_mosts = GREAT_MOST + 7 + 0 + (FAR - 1) * GREAT_MOST + (2 * GREAT_MOST - 1)
        with at_once():
            self.assertEqual(above(self.fleet, self.plan, 0), needs)
            self.assertEqual(above(self.fleet, self.plan, 2 * GREAT_MOST), over_two_mosts)
            self.assertEqual(above(self.fleet, self.plan, 8 * GREAT_MOST), 0)
            self.assertEqual(above(self.fleet, self.plan, GREAT_K), 0)

    def test_row(self):
        with at_once():
            self.assertEqual(row_of(self.fleet, self.plan), [
                (4 * GREAT_MOST - 1, 1),
                (3 * GREAT_MOST, FAR),
                (2 * GREAT_MOST + 1, 7),
                (2 * GREAT_MOST, FAR - 8),
            ])

    def test_dealing(self):
        with at_once():
            told = [load(self.fleet, self.plan, hour) for hour in (-FAR - 1, -FAR, -1, 0, FAR - 1, FAR)]
            self.assertEqual(told, [
                0, 3 * GREAT_MOST, 2 * GREAT_MOST, 3 * GREAT_MOST, 4 * GREAT_MOST - 1, 0,
            ])
            self.assertEqual(load(self.fleet, self.plan, -FAR + 7), 2 * GREAT_MOST + 1)
            self.assertEqual(load(self.fleet, self.plan, -FAR + 8), 2 * GREAT_MOST)
            self.assertEqual(load(self.fleet, self.plan, -2), 2 * GREAT_MOST)

    def test_dealing_by_ships(self):
        with at_once():
            self.assertEqual(cranes(self.fleet, self.plan, 0, FAR // 2), GREAT_MOST)
            self.assertEqual(cranes(self.fleet, self.plan, 1, -1), GREAT_MOST - 1)
            self.assertEqual(cranes(self.fleet, self.plan, 3, -FAR + 7), 1)
            self.assertEqual(cranes(self.fleet, self.plan, 3, -FAR + 8), 0)
            self.assertEqual(cranes(self.fleet, self.plan, 4, -FAR), GREAT_MOST)
            self.assertEqual(cranes(self.fleet, self.plan, 5, FAR - 1), GREAT_MOST - 1)
            self.assertEqual(cranes(self.fleet, self.plan, 7, FAR), 0)

    def test_somewhat_beyond_is_not_refused(self):
        fleet = self.fleet + [(-2 * FAR, 3 * FAR, 5, 4 * GREAT_MOST)]
        with at_once():
            self.assertIs(is_fleet(fleet), True)
            self.assertEqual(len(stretches(fleet)), 7)
            self.assertEqual(above([], [], GREAT_K + 1), 0)


class GreatEvening(unittest.TestCase):
    def setUp(self):
        self.fleets = great_fleets() + [great_case()[0], ladder(10 ** 14, 10 ** 15 - 1)[0]]

    def test_wants(self):
        fleet, _ = great_case()
        with at_once():
            self.assertEqual(hours_of(fleet, [True] * 5), 2 * FAR)
            self.assertEqual(hours_of(fleet, [False, True, False, False, True]), FAR - 1)
            self.assertEqual(want(fleet, [True] * 5), sum(ship[2] for ship in fleet))
            self.assertEqual(want(fleet, [False] * 5), 0)
            # All of ship 0, all but one of ship 1, and none of ship 3; ship 7 has its room full.
            halves = 2 * FAR * GREAT_MOST - 1
            self.assertEqual(want(fleet, [False, False, False, True, True]), halves + GREAT_MOST - 1 + FAR * GREAT_MOST)

    def test_under(self):
        for fleet in self.fleets:
            spans = stretches(fleet)
            with at_once():
                for k in (0, 1, 7, GREAT_MOST // 3, GREAT_MOST, sum(ship[3] for ship in fleet), GREAT_K):
                    self.assert_under(fleet, spans, k)

    def assert_under(self, fleet, spans, k):
        many, part, marks = under(fleet, k)
        for ship, row in zip(fleet, part):
            self.assertTrue(all(0 <= one <= overlap_room(ship, span) for one, span in zip(row, spans)))
            self.assertLessEqual(sum(row), ship[2])
        for total, span in zip(totals_of(part), spans):
            self.assertLessEqual(total, k * (span[1] - span[0]))
        self.assertEqual(many, sum(map(sum, part)))
        needs = sum(ship[2] for ship in fleet)
        self.assertEqual(many, needs - want(fleet, marks) + k * hours_of(fleet, marks))

    def test_even_and_reason(self):
        # No plan has less above k than the want less k times the hours, so the reasons show that the plan is even.
        for fleet in self.fleets:
            with at_once():
                plan = even(fleet)
                self.assertIs(is_plan(fleet, plan), True)
                for k in numbers_about(fleet, plan):
                    marks = reason(fleet, plan, k)
                    self.assertEqual(want(fleet, marks) - k * hours_of(fleet, marks), above(fleet, plan, k))
                self.assertIsNone(chain(fleet, plan))

    def test_even_where_all_is_far(self):
        fleet = [(-FAR, FAR, GREAT_NEED // 2 + 1, GREAT_MOST), (0, FAR, GREAT_NEED // 2, GREAT_MOST)]
        with at_once():
            self.assertEqual(row_of(fleet, even(fleet)), [(GREAT_MOST + 1, 1), (GREAT_MOST, 2 * FAR - 1)])

    def test_chains(self):
        for fleet in self.fleets:
            plan = early_plan(fleet)
            with at_once():
                told = chain(fleet, plan)
                if told is not None:
                    self.assertEqual(chain_faults(fleet, plan, told), [])
                    behind = moved(fleet, plan, told)
                    self.assertIs(is_plan(fleet, behind), True)
                    first, last = told[0][1], told[-1][2]
                    self.assertLess(self.squares(fleet, behind, first, last), self.squares(fleet, plan, first, last))

    def squares(self, fleet, plan, first, last):
        """The sum of the squares of all loads of two stretches: less where the loads are evener."""
        spans = stretches(fleet)
        told = 0
        for place in (first, last):
            least, fuller = divmod(totals_of(plan)[place], spans[place][1] - spans[place][0])
            told += fuller * (least + 1) ** 2 + (spans[place][1] - spans[place][0] - fuller) * least ** 2
        return told

    def test_one_chain_through_all_eight_ships(self):
        step = 10 ** 14
        fleet, plan = ladder(step, GREAT_MOST - 1)
        with at_once():
            told = chain(fleet, plan)
            self.assertEqual(told, [(number, number, number + 1) for number in range(8)])
            behind = moved(fleet, plan, told)
            self.assertEqual(row_of(fleet, behind), [(GREAT_MOST - 1, 9 * step)])
            self.assertIsNone(chain(fleet, behind))
            self.assertEqual(row_of(fleet, even(fleet)), [(GREAT_MOST - 1, 9 * step)])

    def test_somewhat_beyond_is_not_refused(self):
        fleet = great_fleets(1)[0] + [(-2 * FAR, 3 * FAR, 5 * FAR * FAR, 4 * GREAT_MOST), (0, 2, 3, 2)]
        with at_once():
            plan = even(fleet)
            self.assertIs(is_plan(fleet, plan), True)
            self.assertIsNone(chain(fleet, plan))
            self.assertEqual(above(fleet, plan, GREAT_K * 10), 0)
            marks = reason(fleet, plan, GREAT_K * 10)
            self.assertEqual(want(fleet, marks) - GREAT_K * 10 * hours_of(fleet, marks), 0)


class GreatPeaksAndPrices(unittest.TestCase):
    def setUp(self):
        self.fleets = great_fleets() + [great_case()[0], ladder(10 ** 14, 10 ** 15 - 1)[0]]

    def greatest(self, fleet, plan):
        spans = far_stretches(fleet)
        return max(-(-many // (stop - start)) for many, (start, stop) in zip(totals_of(plan), spans))

    def test_peaks(self):
        for fleet in self.fleets:
            with at_once():
                least = peak(fleet)
                for many in (least, least + 1, GREAT_K):
                    plan = fitting(fleet, many)
                    self.assertIs(is_plan(fleet, plan), True)
                    self.assertLessEqual(self.greatest(fleet, plan), many)
                    self.assertIsNone(too_much(fleet, many))
                for many in sorted({0, least // 2, least - 1}):
                    self.assertIsNone(fitting(fleet, many))
                    marks = too_much(fleet, many)
                    self.assertGreater(want(fleet, marks), many * hours_of(fleet, marks))

    def test_a_peak_where_all_is_far(self):
        with at_once():
            self.assertEqual(peak([(-FAR, FAR, GREAT_NEED, GREAT_MOST)]), GREAT_MOST)
            self.assertEqual(peak([(-FAR, FAR, GREAT_NEED, GREAT_MOST)] * 8), 8 * GREAT_MOST)
            self.assertEqual(peak([(-FAR, FAR, 1, GREAT_MOST)]), 1)
            self.assertEqual(peak([(-FAR, FAR, 2 * FAR + 1, 2), (0, 1, 0, 0)]), 2)

    def test_costs(self):
        fleet, plan = great_case()
        loads = ((4 * GREAT_MOST - 1, 1), (3 * GREAT_MOST, FAR), (2 * GREAT_MOST + 1, 7), (2 * GREAT_MOST, FAR - 8))
        for prices in ([0], [GREAT_K], [-GREAT_K], [-GREAT_K, GREAT_K], [GREAT_K] * 60, [-GREAT_K] * 60,
                       [-GREAT_K] * 30 + [GREAT_K] * 30, [GREAT_K - 60 + step for step in range(60)]):
            # All loads are more than sixty.
            hour_by_load = [(sum(prices) + (load - len(prices)) * prices[-1], hours) for load, hours in loads]
            with at_once():
                self.assertEqual(cost(fleet, plan, prices), sum(spent * hours for spent, hours in hour_by_load))

    def test_an_even_plan_costs_no_more(self):
        for fleet in self.fleets:
            with at_once():
                for prices in ([-GREAT_K, GREAT_K], list(range(60)), [0] * 59 + [GREAT_K], [7]):
                    told = cost(fleet, even(fleet), prices)
                    self.assertLessEqual(told, cost(fleet, early_plan(fleet), prices))


class GreatDesk(unittest.TestCase):
    def setUp(self):
        self.fleets = great_fleets(15) + [great_case()[0], ladder(10 ** 14, 10 ** 15 - 1)[0]]

    def test_texts(self):
        for fleet in self.fleets:
            text = told_text(fleet)
            with at_once():
                self.assertEqual(read_fleet(text), (list("abcdefgh"), fleet))
                self.assertEqual(show_fleet(list("abcdefgh"), fleet), text)

    def test_each_row(self):
        for fleet in self.fleets:
            with at_once():
                self.assert_rows(Desk(told_text(fleet)), fleet)

    def test_each_row_behind_ships_that_come_one_by_one(self):
        for fleet in self.fleets:
            desk = Desk()
            with at_once():
                for name, ship in zip("abcdefgh", fleet):
                    self.assertEqual(desk.say(" ".join(("ship", name) + tuple(map(str, ship)))), "ok")
                self.assert_rows(desk, fleet)

    def assert_rows(self, desk, fleet):
        plan = even(fleet)
        self.assertEqual(desk.say("fleet"), told_text(fleet))
        self.assertEqual(desk.say("peak"), str(peak(fleet)))
        self.assertEqual(desk.say("row"), " ".join(f"{height}x{hours}" for height, hours in row_of(fleet, plan)))
        for k in (0, peak(fleet) - 1, peak(fleet), 10 ** 31 - 1):
            self.assertEqual(desk.say(f"above {k}"), str(above(fleet, plan, k)))
        for prices in ([1 - 10 ** 31, 10 ** 31 - 1], [10 ** 31 - 1] * 20, list(range(20)), [1 - 10 ** 31] * 20):
            self.assertEqual(desk.say("cost " + " ".join(map(str, prices))), str(cost(fleet, plan, prices)))
        for hour in (-FAR, -FAR + 1, -1, 0, 1, FAR - 1, FAR):
            working = [int(desk.say(f"cranes {name} {hour}")) for name in "abcdefgh"]
            self.assertEqual(desk.say(f"load {hour}"), str(sum(working)))
            for many, (begin, end, _, most) in zip(working, fleet):
                self.assertTrue(0 <= many <= (most if begin <= hour < end else 0))

    def test_where_all_is_far(self):
        desk = Desk(f"a {-FAR} {FAR} {GREAT_NEED} {GREAT_MOST}; b 0 {FAR} {FAR * GREAT_MOST} {GREAT_MOST}")
        with at_once():
            self.assertEqual(desk.say("row"), f"{2 * GREAT_MOST}x{FAR} {GREAT_MOST}x{FAR}")
            self.assertEqual(desk.say(f"above {GREAT_MOST}"), str(FAR * GREAT_MOST))
            self.assertEqual(desk.say(f"cranes a {-FAR}"), str(GREAT_MOST))
            self.assertEqual(desk.say("gone a"), "ok")
            self.assertEqual(desk.say("peak"), str(GREAT_MOST))
            self.assertEqual(desk.say(f"load {-FAR}"), "0")


if __name__ == "__main__":
    unittest.main()
