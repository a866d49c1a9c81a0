"""Point [2]: what is handed in stays, and told lists are the asker's own."""

import copy
import unittest

from evenquay.chains import chain, moved
from evenquay.dealing import cranes, load
from evenquay.desk import Desk
from evenquay.errors import QuayError
from evenquay.evening import even, reason
from evenquay.fleets import is_fleet, is_ship, room, stretches
from evenquay.flows import under
from evenquay.peaks import fitting, peak, too_much
from evenquay.plans import above, is_plan, row_of
from evenquay.prices import cost
from evenquay.texts import read_fleet, show_fleet
from evenquay.wants import hours_of, want
from tests.samples import ODDITIES, drawn_cases, ladder, told_text

FLEET = [(0, 4, 5, 2), (2, 6, 3, 1)]
PLAN = [[3, 2, 0], [0, 1, 2]]

MARKS = [False, True, True]

# A plan that is not even, and a chain that evens it.
UNEVEN = [[4, 1, 0], [0, 1, 2]]
CHAIN = [(0, 0, 1)]

# Each function with what is handed in.
CALLS = (
    (is_ship, FLEET[0]), (is_fleet, FLEET), (stretches, FLEET), (room, FLEET[0], (0, 2)),
    (is_plan, FLEET, PLAN), (above, FLEET, PLAN, 1), (row_of, FLEET, PLAN),
    (cranes, FLEET, PLAN, 1, 2), (load, FLEET, PLAN, 2), (hours_of, FLEET, MARKS), (want, FLEET, MARKS),
    (under, FLEET, 0), (under, FLEET, 1), (under, FLEET, 10 ** 40), (even, FLEET),
    (reason, FLEET, PLAN, 0), (reason, FLEET, PLAN, 1), (reason, FLEET, PLAN, 10 ** 40),
    (chain, FLEET, PLAN), (chain, FLEET, UNEVEN), (chain, *ladder()), (moved, FLEET, UNEVEN, CHAIN),
    (peak, FLEET), (fitting, FLEET, 1), (fitting, FLEET, 2), (fitting, FLEET, 10 ** 40),
    (too_much, FLEET, 0), (too_much, FLEET, 1), (too_much, FLEET, 2),
    (cost, FLEET, PLAN, [1]), (cost, FLEET, PLAN, [-1, 0, 3]), (cost, FLEET, PLAN, list(range(60))),
    (read_fleet, "a 0 4 5 2; b 2 6 3 1"), (show_fleet, ["a", "b"], FLEET),
    (hours_of, [], []), (want, [], []), (under, [], 1), (even, []), (reason, [], [], 1), (chain, [], []),
    (peak, []), (fitting, [], 0), (too_much, [], 0), (cost, [], [], [1]), (read_fleet, ""), (show_fleet, [], []),
)

# Those that tell lists, perhaps within a tuple or a list.
TELLING = tuple(call for call in CALLS if call[0] in (
    stretches, row_of, under, even, reason, chain, moved, fitting, too_much, read_fleet,
))


def lists_in(thing):
    """All lists in a thing, the thing itself among them."""
    found = [thing] if isinstance(thing, list) else []
    if isinstance(thing, (list, tuple)):
        for part in thing:
            found.extend(lists_in(part))
    return found


class HandedIn(unittest.TestCase):
    def assert_unchanged(self, asked, *handed):
        held = copy.deepcopy(handed)
        first = asked(*handed)
        # repr tells True from 1, which == does not.
        self.assertEqual(repr(handed), repr(held), asked)
        self.assertEqual(repr(asked(*handed)), repr(first), asked)

    def test_stays_as_it_is(self):
        for call in CALLS:
            self.assert_unchanged(*call)

    def test_stays_as_it_is_where_it_is_none(self):
        for thing in ODDITIES + ([[0, 1, 1, 1]], [[3, 2, 0], [2, 1, 0]], [[3, None, 0], [0, 1, 2]]):
            self.assert_unchanged(is_ship, thing)
            self.assert_unchanged(is_fleet, thing)
            self.assert_unchanged(is_plan, FLEET, thing)

    def test_stays_as_it_is_in_drawn_cases(self):
        for fleet, plan in drawn_cases(40):
            self.assert_unchanged(is_fleet, fleet)
            self.assert_unchanged(stretches, fleet)
            self.assert_unchanged(is_plan, fleet, plan)
            self.assert_unchanged(row_of, fleet, plan)
            self.assert_unchanged(above, fleet, plan, 1)
            self.assert_unchanged(load, fleet, plan, 0)
            marks = [place % 2 == 0 for place, _ in enumerate(stretches(fleet))]
            self.assert_unchanged(hours_of, fleet, marks)
            self.assert_unchanged(want, fleet, marks)
            self.assert_unchanged(even, fleet)
            for k in (0, 1, 2, 10 ** 40):
                self.assert_unchanged(under, fleet, k)
                self.assert_unchanged(reason, fleet, plan, k)
                self.assert_unchanged(fitting, fleet, k)
                self.assert_unchanged(too_much, fleet, k)
            self.assert_unchanged(peak, fleet)
            self.assert_unchanged(cost, fleet, plan, [-1, 0, 2])
            self.assert_unchanged(show_fleet, list("abcd"[:len(fleet)]), fleet)
            self.assert_unchanged(chain, fleet, plan)
            moves = chain(fleet, plan)
            if moves is not None:
                self.assert_unchanged(moved, fleet, plan, moves)

    def test_stays_as_it_is_where_it_is_refused(self):
        for thing in ODDITIES + ([[0, 1, 1, 1]], [(0, 1, 2, 1)], [[3, 2, 0], [2, 1, 0]], [[3, None, 0], [0, 1, 2]]):
            for call in ((even, thing), (reason, thing, thing, 1), (chain, thing, PLAN), (moved, thing, PLAN, CHAIN),
                         (reason, FLEET, thing, 1), (chain, FLEET, thing), (moved, FLEET, thing, CHAIN),
                         (peak, thing), (fitting, thing, 1), (too_much, thing, 1), (cost, thing, PLAN, [1, 2]),
                         (cost, FLEET, thing, [1, 2]), (read_fleet, thing), (Desk, thing), (Desk().say, thing)):
                held = copy.deepcopy(call[1:])
                try:
                    call[0](*call[1:])
                except QuayError:
                    pass
                self.assertEqual(repr(call[1:]), repr(held))

    def test_is_not_kept(self):
        fleet = copy.deepcopy(FLEET)
        plan = copy.deepcopy(PLAN)
        self.assertEqual(row_of(fleet, plan), [(2, 2), (1, 4)])
        fleet.append((0, 1, 2, 2))
        plan[:] = [[0, 3, 2, 0], [0, 0, 1, 2], [2, 0, 0, 0]]
        self.assertEqual(stretches(fleet), [(0, 1), (1, 2), (2, 4), (4, 6)])
        self.assertIs(is_plan(fleet, [[1, 2, 2, 0], [0, 0, 1, 2], [2, 0, 0, 0]]), True)
        self.assertEqual(row_of(fleet, plan), [(3, 1), (2, 2), (1, 3)])
        self.assertEqual(above(fleet, plan, 2), 1)
        self.assertEqual(load(fleet, plan, 1), 3)
        self.assertEqual(cranes(fleet, plan, 2, 0), 2)
        self.assertEqual(want(fleet, [True, False, False, False]), 2)
        self.assertEqual(under(fleet, 10 ** 40)[0], 10)
        self.assertIs(is_plan(fleet, even(fleet)), True)

    def test_a_list_that_stands_twice_in_a_plan(self):
        fleet = [(0, 2, 3, 3), (0, 2, 3, 3), (1, 2, 0, 0)]
        row = [3, 0]
        self.assertEqual(moved(fleet, [row, row, [0, 0]], [(0, 0, 1)]), [[2, 1], [3, 0], [0, 0]])
        self.assertEqual(row, [3, 0])


class Told(unittest.TestCase):
    def assert_own(self, asked, *handed):
        first = asked(*handed)
        held = copy.deepcopy(first)
        for one in lists_in(first):
            one.append("mine")
            one.reverse()
        second = asked(*handed)
        self.assertEqual(repr(second), repr(held))
        for one in lists_in(second):
            one.clear()
        self.assertEqual(repr(asked(*handed)), repr(held))

    def assert_no_two_one(self, asked, *handed):
        first = asked(*handed)
        second = asked(*handed)
        lists = lists_in(first) + lists_in(second) + lists_in(handed)
        self.assertEqual(len({id(one) for one in lists}), len(lists), (asked, handed))

    def test_lists_are_the_askers_own(self):
        for call in TELLING + ((stretches, []), (row_of, [], [])):
            self.assert_own(*call)

    def test_no_two_lists_are_one(self):
        for call in TELLING + ((stretches, []), (row_of, [], [])):
            self.assert_no_two_one(*call)

    def test_no_two_lists_are_one_in_drawn_cases(self):
        for fleet, plan in drawn_cases(60, 6):
            self.assert_no_two_one(even, fleet)
            self.assert_no_two_one(chain, fleet, plan)
            for k in (0, 1, 2, 10 ** 40):
                self.assert_no_two_one(under, fleet, k)
                self.assert_no_two_one(reason, fleet, plan, k)
                self.assert_no_two_one(fitting, fleet, k)
                self.assert_no_two_one(too_much, fleet, k)
            self.assert_no_two_one(read_fleet, told_text(fleet))
            moves = chain(fleet, plan)
            if moves is not None:
                self.assert_no_two_one(moved, fleet, plan, moves)

    def test_a_plan_handed_back_is_not_kept(self):
        plan = even(FLEET)
        behind = moved(FLEET, UNEVEN, CHAIN)
        behind[0][0] = 77
        plan[0][0] = 77
        self.assertEqual(UNEVEN, [[4, 1, 0], [0, 1, 2]])
        self.assertEqual(CHAIN, [(0, 0, 1)])
        self.assertIs(is_plan(FLEET, even(FLEET)), True)

    def test_what_is_done_to_a_read_fleet_changes_no_desk(self):
        text = "a 0 4 5 2; b 2 6 3 1"
        desk = Desk(text)
        names, fleet = read_fleet(text)
        names.clear()
        fleet.append((0, 1, 9, 9))
        self.assertEqual(desk.say("fleet"), text)
        self.assertEqual(desk.say("row"), "2x2 1x4")
        self.assertEqual(read_fleet(text), (["a", "b"], FLEET))
        self.assertEqual(show_fleet(["a", "b"], FLEET), text)


if __name__ == "__main__":
    unittest.main()
