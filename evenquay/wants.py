"""Wants: how much of the needs must fall into marked hours."""

from evenquay.fleets import lengths_of, needs_of, rooms_of


def hours_of(fleet, marks):
    return sum([hours for hours, mark in zip(lengths_of(fleet), marks) if mark])


def bound_in(need, rooms, marks):
    # What the stretches without a mark can't take of one ship's need.
    elsewhere = sum([many for many, mark in zip(rooms, marks) if not mark])
    return max(need - elsewhere, 0)


def want(fleet, marks):
    return sum([bound_in(need, rooms, marks) for need, rooms in zip(needs_of(fleet), rooms_of(fleet))])
