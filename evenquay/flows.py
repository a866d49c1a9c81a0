"""What fits under a number: crane hours put in, and moved from stretch to stretch, until no more fits.

Rooms and parts of a plan are lists with, for each ship, a list with a number for each stretch.
"""

from evenquay.fleets import lengths_of, needs_of, rooms_of
from evenquay.plans import total

# Where the parts of a move (ship, off, on) stand; off is None where a crane hour is put in from outside.
SHIP = 0
OFF = 1

# Where the parts of what fits, (many, part, marks), stand.
MANY = 0
PART = 1
MARKS = 2


def no_cranes(rooms):
    return [[0] * len(share) for share in rooms]


def mover(rooms, part, off, on):
    for ship, share in enumerate(part):
        if share[off] > 0 and share[on] < rooms[ship][on]:
            return ship
    return None


def reach(rooms, part, begun):
    # From the stretches begun with, nearest first, so that each way back is a shortest one: no stretch stands in it
    # twice, and no ship moves twice. Each stretch is told with the last move to it.
    moves = dict(begun)
    waiting = list(begun)
    turn = 0
    while turn < len(waiting):
        off = waiting[turn]
        for on in range(len(rooms[0])):
            ship = None if on in moves else mover(rooms, part, off, on)
            if ship is not None:
                moves[on] = (ship, off, on)
                waiting.append(on)
        turn += 1
    return moves


def way_to(moves, end):
    way = []
    move = moves[end]
    while move is not None:
        way.append(move)
        move = moves.get(move[OFF])
    return list(reversed(way))


def put_in(needs, rooms, part):
    # The stretches that can take a crane hour of a ship that has not all it needs.
    moves = {}
    for ship, share in enumerate(part):
        short = sum(share) < needs[ship]
        for on, many in enumerate(share):
            if short and many < rooms[ship][on] and on not in moves:
                moves[on] = (ship, None, on)
    return moves


def most_along(needs, rooms, part, way):
    first = way[0][SHIP]
    limits = [needs[first] - sum(part[first])]
    for ship, off, on in way:
        limits.append(rooms[ship][on] - part[ship][on])
        if off is not None:
            limits.append(part[ship][off])
    return min(limits)


def behind(part, way, many):
    told = [list(share) for share in part]
    for ship, off, on in way:
        if off is not None:
            told[ship][off] -= many
        told[ship][on] += many
    return told


def filled(needs, rooms, tops, part):
    # As much at once as the way takes, along a shortest way: so the turns don't grow with the numbers.
    # Where no way is left, the stretches that can still be reached are full, and their marks are the reason.
    while True:
        moves = reach(rooms, part, put_in(needs, rooms, part))
        free = [place for place in moves if total(part, place) < tops[place]]
        if free == []:
            many = sum([sum(share) for share in part])
            return (many, part, [place in moves for place in range(len(tops))])
        way = way_to(moves, free[0])
        spare = tops[free[0]] - total(part, free[0])
        part = behind(part, way, min(spare, most_along(needs, rooms, part, way)))


def under(fleet, k):
    rooms = rooms_of(fleet)
    tops = [k * hours for hours in lengths_of(fleet)]
    return filled(needs_of(fleet), rooms, tops, no_cranes(rooms))
