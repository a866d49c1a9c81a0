"""Chains of moves by which a plan becomes evener."""

from evenquay.fleets import lengths_of, rooms_of
from evenquay.flows import behind, reach, way_to
from evenquay.plans import must_be_plan, total


def chain(fleet, plan):
    must_be_plan(fleet, plan)
    rooms = rooms_of(fleet)
    hours = lengths_of(fleet)
    totals = [total(plan, place) for place in range(len(hours))]
    least = [many // length for many, length in zip(totals, hours)]
    greatest = [(many + length - 1) // length for many, length in zip(totals, hours)]
    for off in range(len(hours)):
        moves = reach(rooms, plan, {off: None})
        ends = [on for on in moves if greatest[off] - least[on] >= 2]
        if ends != []:
            return way_to(moves, ends[0])
    return None


def moved(fleet, plan, moves):
    must_be_plan(fleet, plan)
    return behind(plan, moves, 1)
