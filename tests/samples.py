"""Fleets, plans and wrong things for the tests, and a slow reckoning by single hours to hold the program against."""

import contextlib
import itertools
import random
import signal


# Wrong things for any place: one of each kind that "of anything" in point [2] allows.
ODDITIES = (
    True, False, None, "", "a", "1", "\t\n", " ~",
    [], [0], [1, 2], [[]], [[[1]]], [[[[]]]], [None], ["1"], [True],
    (), (0,), (0, 1), ((),), (((1,),),), ((((),),),), (None,), ("1",), (False,),
)

# Point [3]: the greatest things that are promised.
FAR = 10 ** 15
GREAT_MOST = 10 ** 15
GREAT_NEED = 2 * 10 ** 30
GREAT_K = 10 ** 40


def drawn_ship(source):
    begin = source.randint(-4, 6)
    end = begin + source.randint(1, 5)
    most = source.randint(0, 3)
    return (begin, end, source.randint(0, most * (end - begin)), most)


def drawn_fleets(many, ships):
    """The same fleets each time: the seed is fixed."""
    source = random.Random(20)
    return [[drawn_ship(source) for _ in range(source.randint(0, ships))] for _ in range(many)]


def slow_stretches(fleet):
    """Walks the hours one by one; a stretch ends at an hour that is a begin or an end."""
    if not fleet:
        return []
    cuts = {ship[0] for ship in fleet} | {ship[1] for ship in fleet}
    told = []
    start = min(cuts)
    for hour in range(start + 1, max(cuts) + 1):
        if hour in cuts:
            told.append((start, hour))
            start = hour
    return told


def slow_room(ship, stretch):
    begin, end, _, most = ship
    return sum(most for hour in range(*stretch) if begin <= hour < end)


def drawn_plan(fleet, source):
    """A plan in which each ship's crane hours lie somewhere in its rooms."""
    plan = []
    for ship in fleet:
        rooms = [slow_room(ship, stretch) for stretch in slow_stretches(fleet)]
        seats = [place for place, seat in enumerate(rooms) for _ in range(seat)]
        taken = source.sample(seats, ship[2])
        plan.append([taken.count(place) for place in range(len(rooms))])
    return plan


def drawn_cases(many=150, ships=4):
    """Pairs of a fleet and a plan of it."""
    source = random.Random(21)
    return [(fleet, drawn_plan(fleet, source)) for fleet in drawn_fleets(many, ships)]


def every_plan(fleet):
    """All plans of a small fleet, in lists."""
    rows = []
    for ship in fleet:
        reach = [range(slow_room(ship, stretch) + 1) for stretch in slow_stretches(fleet)]
        rows.append([list(row) for row in itertools.product(*reach) if sum(row) == ship[2]])
    return [[list(row) for row in plan] for plan in itertools.product(*rows)]


def slow_deal(fleet, plan):
    """Deals each crane hour by itself, by the words of point [8]: a dict from (ship, hour) to cranes."""
    dealt = {}
    for place, (start, stop) in enumerate(slow_stretches(fleet)):
        n = 0
        for number, row in enumerate(plan):
            for _ in range(row[place]):
                key = (number, start + n % (stop - start))
                dealt[key] = dealt.get(key, 0) + 1
                n += 1
    return dealt


def slow_loads(fleet, plan):
    """A dict from each hour of the stretches to its load."""
    loads = {hour: 0 for start, stop in slow_stretches(fleet) for hour in range(start, stop)}
    for (_, hour), cranes in slow_deal(fleet, plan).items():
        loads[hour] += cranes
    return loads


def great_case():
    """Eight ships at the bounds of point [3], and a plan of them."""
    fleet = [
        (-FAR, FAR, GREAT_NEED, GREAT_MOST),
        (-FAR, FAR, GREAT_NEED - 1, GREAT_MOST),
        (-FAR, FAR, 0, 0),
        (-FAR, FAR, 7, GREAT_MOST),
        (-FAR, -FAR + 1, GREAT_MOST, GREAT_MOST),
        (FAR - 1, FAR, GREAT_MOST - 1, GREAT_MOST),
        (-1, 0, 1, 1),
        (0, FAR, FAR * GREAT_MOST, GREAT_MOST),
    ]
    plan = [[overlap_room(ship, stretch) for stretch in great_stretches()] for ship in fleet]
    plan[1][2] -= 1
    plan[3] = [0, 7, 0, 0, 0]
    plan[5][4] -= 1
    return fleet, plan


def great_stretches():
    return [(-FAR, -FAR + 1), (-FAR + 1, -1), (-1, 0), (0, FAR - 1), (FAR - 1, FAR)]


def overlap_room(ship, stretch):
    """The room by the overlap of window and stretch, where the hours are too many to walk."""
    overlap = min(ship[1], stretch[1]) - max(ship[0], stretch[0])
    return ship[3] * max(overlap, 0)


def one_changed(thing, place, part):
    """A copy of a list or tuple with another part in one place."""
    parts = list(thing)
    parts[place] = part
    return tuple(parts) if isinstance(thing, tuple) else parts


@contextlib.contextmanager
def at_once(seconds=5):
    """Fails what would walk hours by the billion, and leaves much time to a busy machine."""
    def too_long(signum, frame):
        raise AssertionError(f"no answer within {seconds} seconds")

    before = signal.signal(signal.SIGALRM, too_long)
    signal.alarm(seconds)
    try:
        yield
    finally:
        signal.alarm(0)
        signal.signal(signal.SIGALRM, before)
