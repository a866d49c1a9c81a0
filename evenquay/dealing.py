"""The dealing out: which crane hours of a plan fall into which hour."""

from evenquay.fleets import FROM, TO, length, stretches
from evenquay.plans import total


def place_of(spans, hour):
    for place, span in enumerate(spans):
        if span[FROM] <= hour < span[TO]:
            return place
    return None


def falling(many, span, hour):
    # Of the stretch's first so many crane hours: full rounds, and one of the last round if it comes so far.
    hours = length(span)
    last = 1 if hour - span[FROM] < many % hours else 0
    return many // hours + last


def cranes(fleet, plan, number, hour):
    spans = stretches(fleet)
    place = place_of(spans, hour)
    if place is None:
        return 0
    ahead = total(plan[:number], place)
    behind = ahead + plan[number][place]
    return falling(behind, spans[place], hour) - falling(ahead, spans[place], hour)


def load(fleet, plan, hour):
    spans = stretches(fleet)
    place = place_of(spans, hour)
    if place is None:
        return 0
    return falling(total(plan, place), spans[place], hour)
