"""Ships, fleets, and the stretches into which a fleet's bounds part the hours."""

from evenquay.errors import NoFleet

# Where the parts of a ship (begin, end, need, most) stand.
BEGIN = 0
END = 1
NEED = 2
MOST = 3

# Where the parts of a stretch (from, to) stand.
FROM = 0
TO = 1


def is_whole(thing):
    # Python counts a truth as an int; here it is no whole number.
    return isinstance(thing, int) and not isinstance(thing, bool)


def is_ship(thing):
    if not isinstance(thing, tuple) or len(thing) != 4:
        return False
    # Ahead of all comparing: a text or None beside a number could not be compared.
    if not all([is_whole(part) for part in thing]):
        return False
    hours = thing[END] - thing[BEGIN]
    return hours > 0 and thing[MOST] >= 0 and 0 <= thing[NEED] <= thing[MOST] * hours


def is_fleet(thing):
    return isinstance(thing, list) and all([is_ship(ship) for ship in thing])


def must_be_fleet(thing):
    if not is_fleet(thing):
        raise NoFleet("no fleet: a list of ships (begin, end, need, most) is wanted")


def bounds(fleet):
    begins = [ship[BEGIN] for ship in fleet]
    ends = [ship[END] for ship in fleet]
    return sorted(set(begins + ends))


def stretches(fleet):
    rising = bounds(fleet)
    return list(zip(rising, rising[1:]))


def length(stretch):
    return stretch[TO] - stretch[FROM]


def room(ship, stretch):
    if ship[BEGIN] <= stretch[FROM] and stretch[TO] <= ship[END]:
        return ship[MOST] * length(stretch)
    return 0


def rooms_of(fleet):
    spans = stretches(fleet)
    return [[room(ship, span) for span in spans] for ship in fleet]


def lengths_of(fleet):
    return [length(span) for span in stretches(fleet)]


def needs_of(fleet):
    return [ship[NEED] for ship in fleet]
