"""What a plan costs, where each further crane of an hour has its price."""

from evenquay.plans import must_be_plan, row_of


def cost_of_hour(height, prices):
    # The cranes beyond the prices are too many to walk; all of them cost the last price.
    beyond = max(height - len(prices), 0)
    return sum(prices[:height]) + beyond * prices[-1]


def cost(fleet, plan, prices):
    must_be_plan(fleet, plan)
    return sum([hours * cost_of_hour(height, prices) for height, hours in row_of(fleet, plan)])
