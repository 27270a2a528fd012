"""What several tests need: things that are nothing as told, and the document's words said a second time.

The second saying goes the long way (walking room by room, trying every housing), so that it
shares no step with the package.
"""

import re
from functools import cache
from itertools import combinations, permutations

from homeward.errors import HomeError, Wrong
from homeward.plans import Plan
from homeward.rows import Row

MOST = 10 ** 18


class Stranger:
    """A thing that can't be compared, hashed or shown: whoever does so without need is found out."""

    __hash__ = None

    def __eq__(self, other):
        raise AssertionError("a stranger was compared")

    def __repr__(self):
        raise AssertionError("a stranger was shown")


def ring_in_itself():
    things = []
    things.append(things)
    return things


# Whatever else can be handed in where a number is asked for.
NO_NUMBERS = [
    None, True, False, "", "3", b"3", (), (3,), [], [3], {}, {3: 3}, set(), frozenset([3]), object(), Stranger(),
    int, len, Exception(), ring_in_itself(), -1, -MOST, MOST + 1, 10 ** 5000, -(10 ** 5000),
]
NO_PLANS = [None, True, 0, 5, "plan", (), (5, True, []), [], [5, True, []], {}, object(), Stranger(), Plan]
NO_KEY_LISTS = [
    None, True, 0, 3, "", "12", (), (1, 2), {}, {1: 1}, {1, 2}, range(3), object(), Stranger(), list, ring_in_itself(),
    [1, 1], [1, 2, 1], [0, MOST, 0], [[]], [[1]], [(1,)], [1, [1]],
]
NO_ROWS = NO_PLANS[:-1] + [Plan(5, True, []), [None] * 5, Plan, Row, ring_in_itself()]
# What is no number in figures from 0 to 10 ** 18, though it has much of one.
NO_FIGURES = [
    "", "-", "--", "00", "01", "007", "+1", "-1", "-0", "+0", "1_0", "1.0", "1e1", "0x1", "1,0", "1-", "x", "1x", "one",
    "\t1", "1\t", "\t", "None", "True", "row", "home", "1000000000000000001", "1000000000000000010",
    "9999999999999999999", "10000000000000000000", "1" + "0" * 30, "0" * 5000, "9" * 5000, "1" * 100000,
]


def small_plans():
    return [
        Plan(rooms, wraps, homes)
        for rooms in (1, 2, 3, 4, 5) for wraps in (True, False)
        for homes in ([], [(0, 1), (4, 4), (9, 3)], [(key, rooms - 1) for key in range(10)])
    ]


def small_key_lists(plan):
    """All lists of up to one key more than there are rooms, of a few keys whose homes clash."""
    few = [0, 1, 4, 5, 8, 9]
    return [list(keys) for many in range(min(plan.rooms + 1, len(few)) + 1) for keys in combinations(few, many)]


def numbers_from(seed, many, most):
    """So many numbers below most, mixed up, but the same ones each time."""
    numbers = []
    for step in range(many):
        seed = (seed * 1103515245 + 12345) % 2 ** 31
        numbers.append(seed // 65536 % most)
    return numbers


def told(call, *things):
    """What a call tells: a pair of "told" and its value, or of a refusal's name and its fields."""
    try:
        return ("told", call(*things))
    except HomeError as e:
        return (type(e).__name__, vars(e))


def refused_wrong(test, at, call, *things):
    with test.assertRaises(Wrong) as caught:
        call(*things)
    test.assertEqual(caught.exception.at, at)
    test.assertIs(type(caught.exception), Wrong)
    test.assertIs(type(caught.exception.at), int)


def is_figures(word, most=str(MOST)):
    """Point 43 and 2 by the signs alone."""
    if re.fullmatch("0|[1-9][0-9]*", word) is None:
        return False
    return (len(word), word) <= (len(most), most)


def walked_home(rooms, homes, key):
    number = key
    for one, other in homes:
        if one == key:
            number = other
    return number - number // rooms * rooms


def walked_far(rooms, wraps, homes, key, room):
    at, steps = walked_home(rooms, homes, key), 0
    while at != room:
        at, steps = at + 1, steps + 1
        if at == rooms:
            if not wraps:
                return None
            at = 0
    return steps


def walked_ahead(rooms, wraps, homes, room, one, other):
    one_far = walked_far(rooms, wraps, homes, one, room)
    other_far = walked_far(rooms, wraps, homes, other, room)
    if one == other or one_far is None:
        return False
    if other_far is None or one_far > other_far:
        return True
    return one_far == other_far and one < other


def all_housings(rooms, wraps, homes, keys):
    """Every housing of the keys, kept or not (point 11)."""
    found = []
    for places in permutations(range(rooms), len(keys)):
        housing = [None] * rooms
        for key, place in zip(keys, places):
            housing[place] = key
        if all(key is None or walked_far(rooms, wraps, homes, key, room) is not None
               for room, key in enumerate(housing)):
            found.append(housing)
    return found


def is_kept(rooms, wraps, homes, housing):
    """Point 13 of a housing (point 11)."""
    some_at_home = False
    for room, key in enumerate(housing):
        if key is None:
            continue
        if walked_far(rooms, wraps, homes, key, room) == 0:
            some_at_home = True
            continue
        ahead = housing[room - 1]
        if ahead is None or not walked_ahead(rooms, wraps, homes, (room - 1) % rooms, ahead, key):
            return False
    return some_at_home or None in housing or not wraps


def only_kept(plan, keys):
    """The one kept housing among all housings there are, or None where the keys have none."""
    found = all_housings(plan.rooms, plan.wraps, plan.homes, keys)
    kept = [housing for housing in found if is_kept(plan.rooms, plan.wraps, plan.homes, housing)]
    assert len(kept) == min(len(found), 1)
    return kept[0] if kept else None


@cache
def small_housings():
    """Each small plan with each list of small_key_lists that has a housing there, and its kept one."""
    return [
        (plan, keys, housing)
        for plan in small_plans() for keys in small_key_lists(plan)
        for housing in [only_kept(plan, keys)] if housing is not None
    ]


def row_of(plan, keys):
    row = Row(plan)
    for key in keys:
        row.put(key)
    return row


def large_rows():
    """Rows of many rooms, from empty to full, whose keys come one by one."""
    rows = []
    for rooms in (7, 16, 33, 64):
        for wraps in (True, False):
            for seed, most in ((1, 1000), (2, rooms), (3, 5)):
                homes = [(key, 3 * key) for key in numbers_from(seed, 20, most)[::4]]
                row = Row(Plan(rooms, wraps, list(dict(homes).items())))
                rows.append(row.copied())
                for step, key in enumerate(numbers_from(seed + rooms, 90, most * 7)):
                    told(row.put, key)
                    if step % 15 == 0:
                        rows.append(row.copied())
                rows.append(row)
    return rows


def walked_put(plan, housing, key):
    """Point 19 word by word: who came to which room, and the housing then. The keys must fit."""
    housing, came = list(housing), []
    room = walked_home(plan.rooms, plan.homes, key)
    while key is not None:
        there = housing[room]
        if there is None or walked_ahead(plan.rooms, plan.wraps, plan.homes, room, key, there):
            housing[room], key = key, there
            came.append((housing[room], room))
        room = room + 1 if room + 1 < plan.rooms else 0
    return came, housing


def walked_take(plan, housing, key):
    """Point 20 word by word: the room, who was drawn back to which room, and the housing then."""
    housing, came = list(housing), []
    room = hole = housing.index(key)
    housing[hole] = None
    while hole + 1 < plan.rooms or plan.wraps:
        behind = (hole + 1) % plan.rooms
        there = housing[behind]
        if there is None or walked_home(plan.rooms, plan.homes, there) == behind:
            break
        housing[hole], housing[behind] = there, None
        came.append((there, hole))
        hole = behind
    return room, came, housing


def walked_way(plan, key):
    """All rooms from the key's home on, in their order."""
    home = walked_home(plan.rooms, plan.homes, key)
    rooms = list(range(plan.rooms))
    return rooms[home:] + (rooms[:home] if plan.wraps else [])


def walked_look(plan, housing, key):
    """Point 23 word by word."""
    seen = []
    for room in walked_way(plan, key):
        held = housing[room]
        seen.append((room, held))
        if held is not None and held == key:
            return (room, seen)
        if held is None or walked_ahead(plan.rooms, plan.wraps, plan.homes, room, key, held):
            return (None, seen)
    return (None, seen)


def passed_in(rooms, wraps, homes, housing):
    """How many pass on from each room of a housing (point 16)."""
    passes = [0] * rooms
    for room, key in enumerate(housing):
        at = room if key is None else walked_home(rooms, homes, key)
        while at != room:
            passes[at] += 1
            at = (at + 1) % rooms
    return passes


def is_crowd_there(rooms, wraps, homes, keys, room):
    """Point 15, counted home by home."""
    if wraps:
        return room == 0 and len(keys) > rooms
    count = 0
    for key in keys:
        for place in range(room, rooms):
            count += walked_home(rooms, homes, key) == place
    return count > len(range(room, rooms))


def all_windows(plan):
    return [
        (first, last) for first in range(plan.rooms) for last in range(plan.rooms) if plan.wraps or first <= last
    ]


def rooms_within(plan, window):
    """Point 27, walked from the first room to the last one."""
    rooms = [window[0]]
    while rooms[-1] != window[1]:
        rooms.append(rooms[-1] + 1 if rooms[-1] + 1 < plan.rooms else 0)
    return rooms


def most_shown(plan, keys, window):
    """The greatest far that a window shows of the keys, counted home by home; below 0 where it shows none."""
    rooms = rooms_within(plan, window)
    return len([key for key in keys if walked_home(plan.rooms, plan.homes, key) in rooms]) - len(rooms)


def fars_in(plan, housing):
    return [
        walked_far(plan.rooms, plan.wraps, plan.homes, key, room)
        for room, key in enumerate(housing) if key is not None
    ]


def counts_of(plan, keys):
    """Of each room how many of the keys have their home there."""
    counts = [0] * plan.rooms
    numbers = dict(plan.homes)
    for key in keys:
        counts[numbers.get(key, key) % plan.rooms] += 1
    return counts


def greatest_shown(plan, keys):
    """The greatest far that a window shows, counted room by room; below 0 where none shows any."""
    counts = counts_of(plan, keys)
    greatest = -1
    for first in range(plan.rooms):
        many = 0
        for step in range(plan.rooms if plan.wraps else plan.rooms - first):
            many += counts[(first + step) % plan.rooms] - 1
            greatest = max(greatest, many)
    return greatest


def crowd_rooms(plan, keys):
    if plan.wraps:
        return [0] if len(keys) > plan.rooms else []
    counts = counts_of(plan, keys)
    return [room for room in range(plan.rooms) if sum(counts[room:]) > plan.rooms - room]


def counted_do(plan, keys, most):
    """Point 34 by 29 and 30: a kept housing's farthest is as far as some window shows, and no farther."""
    return crowd_rooms(plan, keys) == [] and greatest_shown(plan, keys) <= most


def first_that_does(keys, homes, wraps, most):
    for rooms in range(1, 65):
        if counted_do(Plan(rooms, wraps, homes), keys, most):
            return rooms
    return None
