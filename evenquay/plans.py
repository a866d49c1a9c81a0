"""Plans of a fleet: what is one, its crane hours above a number, and its loads, counted."""

from evenquay.errors import NoPlan
from evenquay.fleets import NEED, is_whole, length, must_be_fleet, room, stretches


def is_plan(fleet, thing):
    if not isinstance(thing, list) or len(thing) != len(fleet):
        return False
    spans = stretches(fleet)
    return all([is_share(ship, spans, share) for ship, share in zip(fleet, thing)])


def is_share(ship, spans, thing):
    if not isinstance(thing, list) or len(thing) != len(spans):
        return False
    # Ahead of all comparing: a text or None beside a number could not be compared.
    if not all([is_whole(many) for many in thing]):
        return False
    if not all([0 <= many <= room(ship, span) for span, many in zip(spans, thing)]):
        return False
    return sum(thing) == ship[NEED]


def must_be_plan(fleet, thing):
    # The fleet ahead of the plan: of what is no fleet there are no plans to speak of.
    must_be_fleet(fleet)
    if not is_plan(fleet, thing):
        raise NoPlan("no plan of the fleet: for each ship a list with its crane hours in each stretch is wanted")


def total(plan, place):
    return sum([share[place] for share in plan])


def above(fleet, plan, k):
    # By stretches, not by hours: the hours may be too many to walk.
    over = [total(plan, place) - k * length(span) for place, span in enumerate(stretches(fleet))]
    return sum([many for many in over if many > 0])


def loads_in(many, hours):
    # The crane hours go round the hours, so loads in a stretch differ by one at most.
    least = many // hours
    fuller = many % hours
    counted = [(least, hours - fuller)]
    if fuller > 0:
        counted.append((least + 1, fuller))
    return counted


def row_of(fleet, plan):
    hours_by_load = {}
    for place, span in enumerate(stretches(fleet)):
        for load, hours in loads_in(total(plan, place), length(span)):
            hours_by_load[load] = hours_by_load.get(load, 0) + hours
    return sorted(hours_by_load.items(), reverse=True)
