"""Fleets, plans and wrong things for the tests, and a slow reckoning by single hours to hold the program against.

Nothing here draws from the program.
"""

import contextlib
import itertools
import random
import signal


# Wrong things for any place: one of each kind that "of anything" in point [2] allows.
ODDITIES = (
    True, False, None, "", "a", "1", "\t\n", " ~",
    [], [0], [1, 2], [[]], [[[1]]], [[[[]]]], [None], ["1"], [True],
    (), (0,), (0, 1), ((),), (((1,),),), ((((),),),), (None,), ("1",), (False,),
)

# The signs of point [2] but for tabs and line ends.
SIGNS = tuple(map(chr, range(ord(" "), ord("~") + 1)))

# Words that are no number and no name of point [19], though Python might read some of them as numbers.
WRONG_NUMBERS = tuple("1" + sign for sign in SIGNS if not sign.isdigit()) + (
    "", "-", "+", "+1", "-0", "--1", "+-1", "-+1", "00", "01", "-01", "1_0", "_1", "1_", "1.0", "1e3", "0x1", "1-", "a",
    "A", "1a", "1,0", "1" + "0" * 31, "-1" + "0" * 31, "9" * 32, "0" * 32, "1" * 5000, "1\t", "\t1", "1\n", "\n", "'1'",
)
WRONG_NAMES = tuple("a" + sign for sign in SIGNS if not sign.islower()) + (
    "", "abcdefghi", "a" * 30, "A", "Ab", "aB", "ABCDEFGH", "a1", "1", "0", "a_b", "_", "a-b", "-", "a.", "~", "a;",
    ";a", "a\t", "\ta", "a\n", "\n", "'a'", "{", "`", "@", "[", "NAME",
)

# Point [3]: the greatest things that are promised.
FAR = 10 ** 15
GREAT_MOST = 10 ** 15
GREAT_NEED = 2 * 10 ** 30
GREAT_K = 10 ** 40


def drawn_ship(source):
    begin = source.randint(-4, 6)
    end = begin + source.randint(1, 5)
    most = source.randint(0, 3)
    return (begin, end, source.randint(0, most * (end - begin)), most)


def drawn_fleets(many, ships):
    """The same fleets each time: the seed is fixed."""
    source = random.Random(20)
    return [[drawn_ship(source) for _ in range(source.randint(0, ships))] for _ in range(many)]


def slow_stretches(fleet):
    """Walks the hours one by one; a stretch ends at an hour that is a begin or an end."""
    if not fleet:
        return []
    cuts = {ship[0] for ship in fleet} | {ship[1] for ship in fleet}
    told = []
    start = min(cuts)
    for hour in range(start + 1, max(cuts) + 1):
        if hour in cuts:
            told.append((start, hour))
            start = hour
    return told


def slow_room(ship, stretch):
    begin, end, _, most = ship
    return sum(most for hour in range(*stretch) if begin <= hour < end)


def drawn_plan(fleet, source):
    """A plan in which each ship's crane hours lie somewhere in its rooms."""
    plan = []
    for ship in fleet:
        rooms = [slow_room(ship, stretch) for stretch in slow_stretches(fleet)]
        seats = [place for place, seat in enumerate(rooms) for _ in range(seat)]
        taken = source.sample(seats, ship[2])
        plan.append([taken.count(place) for place in range(len(rooms))])
    return plan


def drawn_cases(many=150, ships=4):
    """Pairs of a fleet and a plan of it."""
    source = random.Random(21)
    return [(fleet, drawn_plan(fleet, source)) for fleet in drawn_fleets(many, ships)]


def every_plan(fleet):
    """All plans of a small fleet, in lists."""
    rows = []
    for ship in fleet:
        reach = [range(slow_room(ship, stretch) + 1) for stretch in slow_stretches(fleet)]
        rows.append([list(row) for row in itertools.product(*reach) if sum(row) == ship[2]])
    return [[list(row) for row in plan] for plan in itertools.product(*rows)]


def slow_deal(fleet, plan):
    """Deals each crane hour by itself, by the words of point [8]: a dict from (ship, hour) to cranes."""
    dealt = {}
    for place, (start, stop) in enumerate(slow_stretches(fleet)):
        n = 0
        for number, row in enumerate(plan):
            for _ in range(row[place]):
                key = (number, start + n % (stop - start))
                dealt[key] = dealt.get(key, 0) + 1
                n += 1
    return dealt


def slow_loads(fleet, plan):
    """A dict from each hour of the stretches to its load."""
    loads = {hour: 0 for start, stop in slow_stretches(fleet) for hour in range(start, stop)}
    for (_, hour), cranes in slow_deal(fleet, plan).items():
        loads[hour] += cranes
    return loads


def slow_hours(fleet):
    """How many hours each stretch has."""
    return [len(range(*stretch)) for stretch in slow_stretches(fleet)]


def slow_totals(fleet, all_needs=True):
    """The crane hours by stretches of every plan of a small fleet, or of every list that may fall short of needs."""
    told = {(0,) * len(slow_stretches(fleet))}
    for ship in fleet:
        reach = [range(slow_room(ship, stretch) + 1) for stretch in slow_stretches(fleet)]
        rows = [row for row in itertools.product(*reach) if sum(row) == ship[2] or sum(row) < ship[2] and not all_needs]
        told = {tuple(map(sum, zip(ahead, row))) for ahead in told for row in rows}
    return told


def slow_above(totals, hours, k):
    """The crane hours above k, hour by hour."""
    loads = [(many + length - 1 - hour) // length for many, length in zip(totals, hours) for hour in range(length)]
    return sum(max(load - k, 0) for load in loads)


def fewest_above(fleet, k):
    """The fewest crane hours above k that any plan of a small fleet has."""
    return min(slow_above(totals, slow_hours(fleet), k) for totals in slow_totals(fleet))


def slow_peak(fleet):
    """The least greatest load that any plan of a small fleet has."""
    hours = slow_hours(fleet)
    return min(max((-(-many // length) for many, length in zip(totals, hours)), default=0)
               for totals in slow_totals(fleet))


def slow_cost(fleet, plan, prices):
    """Crane by crane of each hour, by the words of point [18]."""
    return sum(prices[min(crane, len(prices) - 1)]
               for load in slow_loads(fleet, plan).values() for crane in range(load))


def slow_want(fleet, marks):
    """Hour by hour, by the words of point [11]."""
    marked = {hour for stretch, mark in zip(slow_stretches(fleet), marks) if mark for hour in range(*stretch)}
    told = 0
    for begin, end, need, most in fleet:
        elsewhere = sum(most for hour in range(begin, end) if hour not in marked)
        told += max(need - elsewhere, 0)
    return told


def slow_marked(fleet, marks):
    """How many hours are marked."""
    return sum(length for length, mark in zip(slow_hours(fleet), marks) if mark)


def every_marks(fleet):
    return [list(marks) for marks in itertools.product((False, True), repeat=len(slow_stretches(fleet)))]


def totals_of(plan):
    return [sum(column) for column in zip(*plan)]


def shifted(fleet, step):
    return [(begin + step, end + step, need, most) for begin, end, need, most in fleet]


def turned(fleet):
    """With time turned about."""
    return [(-end, -begin, need, most) for begin, end, need, most in fleet]


def small_fleets(many=60):
    """Fleets few of whose plans are unlike, so that all can be walked."""
    chosen = [
        [],
        [(0, 1, 0, 0)],
        [(0, 3, 0, 2)],
        [(0, 3, 7, 3)],
        [(0, 4, 5, 2), (2, 6, 3, 1)],
        [(0, 2, 2, 1), (5, 7, 1, 1)],
        [(0, 1, 3, 3), (0, 4, 4, 2)],
        [(0, 2, 4, 2), (0, 2, 4, 2)],
        [(0, 3, 3, 3), (1, 3, 2, 1), (2, 3, 1, 1)],
        [(-2, 1, 3, 1), (0, 3, 4, 2), (1, 2, 2, 2)],
    ]
    drawn = [fleet for fleet in drawn_fleets(30 * many, 5) if 6 <= plans_in(fleet) <= 1000]
    return chosen + drawn[:many]


def plans_in(fleet):
    """How many plans a small fleet has."""
    plans = 1
    for ship in fleet:
        reach = [range(slow_room(ship, stretch) + 1) for stretch in slow_stretches(fleet)]
        plans *= sum(sum(row) == ship[2] for row in itertools.product(*reach))
    return plans


def great_fleets(many=40):
    """Fleets of eight ships with bounds, mosts and needs of all sizes to those of point [3]."""
    source = random.Random(22)
    return [[great_ship(source) for _ in range(8)] for _ in range(many)]


def great_ship(source):
    reach = source.choice((6, 1000, FAR))
    begin, end = sorted(source.sample(range(-reach, reach + 1), 2))
    most = source.choice((source.randint(0, 3), source.randint(0, GREAT_MOST), GREAT_MOST))
    room = most * (end - begin)
    return (begin, end, source.choice((room, source.randint(0, room), source.randint(0, room))), most)


def far_stretches(fleet):
    """The stretches, where the hours are too many to walk."""
    bounds = sorted({bound for ship in fleet for bound in ship[:2]})
    return list(zip(bounds, bounds[1:]))


def chain_faults(fleet, plan, moves):
    """What keeps moves from being a chain that evens the plan, by the words of point [15]; of all sizes."""
    spans = far_stretches(fleet)
    if type(moves) is not list or not moves:
        return ["no list of one move at least"]
    faults = []
    for move in moves:
        ship, off, on = move
        if type(move) is not tuple or any(type(part) is not int or part < 0 for part in move) or off == on:
            faults.append(f"{move} is no tuple of a ship and two unlike stretches")
        if plan[ship][off] < 1 or plan[ship][on] >= overlap_room(fleet[ship], spans[on]):
            faults.append(f"{move} can't be done")
    for ahead, later in zip(moves, moves[1:]):
        if later[1] != ahead[2]:
            faults.append(f"{later} is not off the stretch that {ahead} goes on")
    stand = [moves[0][1]] + [move[2] for move in moves]
    if len(set(stand)) != len(stand):
        faults.append("a stretch stands in it twice")
    totals = totals_of(plan)
    hours = [stop - start for start, stop in spans]
    if -(-totals[stand[0]] // hours[stand[0]]) < totals[stand[-1]] // hours[stand[-1]] + 2:
        faults.append("it does not even the plan")
    return faults


def early_plan(fleet):
    """The plan in which each ship's crane hours lie as early as they can."""
    plan = []
    for ship in fleet:
        left = ship[2]
        row = []
        for stretch in far_stretches(fleet):
            row.append(min(left, overlap_room(ship, stretch)))
            left -= row[-1]
        plan.append(row)
    return plan


def ladder(step=1, most=1):
    """Eight ships, each in two neighbouring stretches, and a plan whose one chain goes through all of them.

    All loads are the most, but for one hour with one more in the first stretch and one with one less in the last.
    """
    fleet = [(number * step, (number + 2) * step, most * step, most) for number in range(8)]
    fleet[0] = (0, 2 * step, most * step + 1, most + 1)
    fleet[7] = (7 * step, 9 * step, 2 * most * step - 1, most)
    plan = [[0] * 9 for _ in range(8)]
    for number in range(8):
        plan[number][number] = most * step
    plan[0][0] += 1
    plan[7][8] = most * step - 1
    return fleet, plan


def great_case():
    """Eight ships at the bounds of point [3], and a plan of them."""
    fleet = [
        (-FAR, FAR, GREAT_NEED, GREAT_MOST),
        (-FAR, FAR, GREAT_NEED - 1, GREAT_MOST),
        (-FAR, FAR, 0, 0),
        (-FAR, FAR, 7, GREAT_MOST),
        (-FAR, -FAR + 1, GREAT_MOST, GREAT_MOST),
        (FAR - 1, FAR, GREAT_MOST - 1, GREAT_MOST),
        (-1, 0, 1, 1),
        (0, FAR, FAR * GREAT_MOST, GREAT_MOST),
    ]
    plan = [[overlap_room(ship, stretch) for stretch in great_stretches()] for ship in fleet]
    plan[1][2] -= 1
    plan[3] = [0, 7, 0, 0, 0]
    plan[5][4] -= 1
    return fleet, plan


def great_stretches():
    return [(-FAR, -FAR + 1), (-FAR + 1, -1), (-1, 0), (0, FAR - 1), (FAR - 1, FAR)]


def overlap_room(ship, stretch):
    """The room by the overlap of window and stretch, where the hours are too many to walk."""
    overlap = min(ship[1], stretch[1]) - max(ship[0], stretch[0])
    return ship[3] * max(overlap, 0)


def told_text(fleet):
    """A text that tells the fleet, its ships called a, b, c .."""
    return "; ".join(" ".join(("abcdefghij"[number],) + tuple(map(str, ship))) for number, ship in enumerate(fleet))


def edited(text, source, signs):
    """The text with one sign more, fewer, or another."""
    place = source.randint(0, len(text))
    return text[:place] + source.choice(signs) + text[place + source.randint(0, 1):]


def one_changed(thing, place, part):
    """A copy of a list or tuple with another part in one place."""
    parts = list(thing)
    parts[place] = part
    return tuple(parts) if isinstance(thing, tuple) else parts


@contextlib.contextmanager
def at_once(seconds=5):
    """Fails what would walk hours by the billion, and leaves much time to a busy machine."""
    def too_long(signum, frame):
        raise AssertionError(f"no answer within {seconds} seconds")

    before = signal.signal(signal.SIGALRM, too_long)
    signal.alarm(seconds)
    try:
        yield
    finally:
        signal.alarm(0)
        signal.signal(signal.SIGALRM, before)
