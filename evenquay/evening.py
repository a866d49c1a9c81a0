"""Even plans, and for each number the reason why no plan has fewer crane hours above it."""

from evenquay.fleets import lengths_of, must_be_fleet, needs_of, rooms_of
from evenquay.flows import MANY, MARKS, PART, filled, no_cranes, under
from evenquay.plans import must_be_plan
from evenquay.wants import bound_in


def kept(numbers, marks, mark):
    return [number for number, other in zip(numbers, marks) if other == mark]


def joined(marked, others, marks):
    # The two parts' numbers, each back in its own stretch.
    share = []
    for place, mark in enumerate(marks):
        ahead = marks[:place].count(mark)
        share.append(marked[ahead] if mark else others[ahead])
    return share


def evened_apart(needs, rooms, hours, marks):
    # The marks are a reason for some number: in the marked stretches no load need be less, in the others none more.
    # So in the marked ones is what must be there and nothing else, and each side is evened by itself.
    inside = [bound_in(need, share, marks) for need, share in zip(needs, rooms)]
    outside = [need - many for need, many in zip(needs, inside)]
    high = evened(inside, [kept(share, marks, True) for share in rooms], kept(hours, marks, True))
    low = evened(outside, [kept(share, marks, False) for share in rooms], kept(hours, marks, False))
    return [joined(marked, others, marks) for marked, others in zip(high, low)]


def evened(needs, rooms, hours):
    # Were all hours alike, each would have the level or one more. If all can be filled to the level, and all fits
    # under one more, it can be so, as filling on takes nothing off a stretch. If not, the marks part the stretches,
    # with some on each side, so this comes to an end.
    level = sum(needs) // sum(hours)
    floor = filled(needs, rooms, [level * many for many in hours], no_cranes(rooms))
    if floor[MANY] < level * sum(hours):
        return evened_apart(needs, rooms, hours, floor[MARKS])
    full = filled(needs, rooms, [(level + 1) * many for many in hours], floor[PART])
    if full[MANY] < sum(needs):
        return evened_apart(needs, rooms, hours, full[MARKS])
    return full[PART]


def even(fleet):
    must_be_fleet(fleet)
    if fleet == []:
        return []
    return evened(needs_of(fleet), rooms_of(fleet), lengths_of(fleet))


def reason(fleet, plan, k):
    # An even plan has under k as much as fits there, so why no more fits is why no less is above.
    must_be_plan(fleet, plan)
    return under(fleet, k)[MARKS]
