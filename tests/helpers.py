"""What several tests need: things that are nothing as told, and the document's words said a second time.

The second saying goes the long way (walking room by room, trying every housing), so that it
shares no step with the package.
"""

from itertools import permutations

from homeward.errors import HomeError, Wrong

MOST = 10 ** 18


class Stranger:
    """A thing that can't be compared, hashed or shown: whoever does so without need is found out."""

    __hash__ = None

    def __eq__(self, other):
        raise AssertionError("a stranger was compared")

    def __repr__(self):
        raise AssertionError("a stranger was shown")


def ring_in_itself():
    things = []
    things.append(things)
    return things


# Whatever else can be handed in where a number is asked for.
NO_NUMBERS = [
    None, True, False, "", "3", b"3", (), (3,), [], [3], {}, {3: 3}, set(), frozenset([3]), object(), Stranger(),
    int, len, Exception(), ring_in_itself(), -1, -MOST, MOST + 1, 10 ** 5000, -(10 ** 5000),
]


def told(call, *things):
    """What a call tells: a pair of "told" and its value, or of a refusal's name and its fields."""
    try:
        return ("told", call(*things))
    except HomeError as e:
        return (type(e).__name__, vars(e))


def refused_wrong(test, at, call, *things):
    with test.assertRaises(Wrong) as caught:
        call(*things)
    test.assertEqual(caught.exception.at, at)
    test.assertIs(type(caught.exception), Wrong)
    test.assertIs(type(caught.exception.at), int)


def walked_home(rooms, homes, key):
    number = key
    for one, other in homes:
        if one == key:
            number = other
    return number - number // rooms * rooms


def walked_far(rooms, wraps, homes, key, room):
    at, steps = walked_home(rooms, homes, key), 0
    while at != room:
        at, steps = at + 1, steps + 1
        if at == rooms:
            if not wraps:
                return None
            at = 0
    return steps


def walked_ahead(rooms, wraps, homes, room, one, other):
    one_far = walked_far(rooms, wraps, homes, one, room)
    other_far = walked_far(rooms, wraps, homes, other, room)
    if one == other or one_far is None:
        return False
    if other_far is None or one_far > other_far:
        return True
    return one_far == other_far and one < other


def all_housings(rooms, wraps, homes, keys):
    """Every housing of the keys, kept or not (point 11)."""
    found = []
    for places in permutations(range(rooms), len(keys)):
        housing = [None] * rooms
        for key, place in zip(keys, places):
            housing[place] = key
        if all(key is None or walked_far(rooms, wraps, homes, key, room) is not None
               for room, key in enumerate(housing)):
            found.append(housing)
    return found


def is_kept(rooms, wraps, homes, housing):
    """Point 13 of a housing (point 11)."""
    some_at_home = False
    for room, key in enumerate(housing):
        if key is None:
            continue
        if walked_far(rooms, wraps, homes, key, room) == 0:
            some_at_home = True
            continue
        ahead = housing[room - 1]
        if ahead is None or not walked_ahead(rooms, wraps, homes, (room - 1) % rooms, ahead, key):
            return False
    return some_at_home or None in housing or not wraps


def passed_in(rooms, wraps, homes, housing):
    """How many pass on from each room of a housing (point 16)."""
    passes = [0] * rooms
    for room, key in enumerate(housing):
        at = room if key is None else walked_home(rooms, homes, key)
        while at != room:
            passes[at] += 1
            at = (at + 1) % rooms
    return passes


def is_crowd_there(rooms, wraps, homes, keys, room):
    """Point 15, counted home by home."""
    if wraps:
        return room == 0 and len(keys) > rooms
    count = 0
    for key in keys:
        for place in range(room, rooms):
            count += walked_home(rooms, homes, key) == place
    return count > len(range(room, rooms))
