"""Spread: how far the keys of a row are from home, and windows that show that no housing does better."""

from homeward.errors import NotThere, Wrong
from homeward.faults import room_ahead
from homeward.housed import refuse_wrong
from homeward.plans import is_whole_within
from homeward.rows import refuse_wrong_row_or_key

MOST_FAR = 100


def fars_of(row):
    return [(key, row.plan.far(key, room)) for room, key in enumerate(row.rooms_held()) if key is not None]


def farthest(row):
    best = None
    for key, far in fars_of(row):
        if best is None or far > best[0]:
            best = (far, key, row.room_of(key))
    return best


def far_sum(row):
    return sum([far for key, far in fars_of(row)])


def is_window(plan, thing):
    if not isinstance(thing, tuple) or len(thing) != 2:
        return False
    if not plan.is_room(thing[0]) or not plan.is_room(thing[1]):
        return False
    return plan.wraps or thing[0] <= thing[1]


def window_rooms(plan, window):
    return plan.rooms_on(window[0], (window[1] - window[0]) % plan.rooms + 1)


def is_far_shown(plan, keys, far, window):
    rooms = window_rooms(plan, window)
    return len([key for key in keys if plan.home(key) in rooms]) >= len(rooms) + far


def shows_far(plan, keys, far, window):
    refuse_wrong(plan, keys)
    if not is_whole_within(far, 0, MOST_FAR):
        raise Wrong(2)
    if not is_window(plan, window):
        raise Wrong(3)
    return is_far_shown(plan, keys, far, window)


# From the first key at home, at the asked key's home or ahead of it, up to that home: all that stand from there
# up to the asked key have their homes in these rooms, and they are as many as the rooms and its far.
def window_of(row, key):
    refuse_wrong_row_or_key(row, key)
    if row.room_of(key) is None:
        raise NotThere(key)
    rooms = row.rooms_held()
    home = row.plan.home(key)
    first = home
    while row.plan.far(rooms[first], first) > 0:
        first = room_ahead(row.plan, first)
    return (first, home)
