"""The least number of cranes, and what fits or is too much for so many."""

from evenquay.evening import even
from evenquay.fleets import must_be_fleet, needs_of
from evenquay.flows import MANY, MARKS, PART, under
from evenquay.plans import row_of


def peak(fleet):
    # No plan has less above any number than an even one, so none has a less greatest load either.
    plan = even(fleet)
    return max([height for height, hours in row_of(fleet, plan)], default=0)


def all_fits(fleet, told):
    return told[MANY] == sum(needs_of(fleet))


def fitting(fleet, many):
    must_be_fleet(fleet)
    told = under(fleet, many)
    return told[PART] if all_fits(fleet, told) else None


def too_much(fleet, many):
    # Where not all needs fit, the marks that tell why have a want of more than so many times their hours.
    must_be_fleet(fleet)
    told = under(fleet, many)
    return None if all_fits(fleet, told) else told[MARKS]
