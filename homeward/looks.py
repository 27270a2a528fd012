"""Looks: a key is sought from its home on, and what was seen is a paper that it isn't there."""

from homeward.plans import is_number, is_whole
from homeward.rows import refuse_wrong_row_or_key
from homeward.spread import farthest


# All rooms that a look for the key may come to, in the order in which it does.
def way_of(plan, key):
    home = plan.home(key)
    return plan.rooms_on(home, plan.rooms if plan.wraps else plan.rooms - home)


def is_passed(plan, key, room, held):
    return held is not None and plan.goes_ahead(room, held, key)


def gives_way(plan, key, room, held):
    return held is None or plan.goes_ahead(room, key, held)


def look_for(row, key):
    refuse_wrong_row_or_key(row, key)
    rooms = row.rooms_held()
    seen = []
    for room in way_of(row.plan, key):
        seen.append((room, rooms[room]))
        if rooms[room] == key:
            return (room, seen)
        if gives_way(row.plan, key, room, rooms[room]):
            break
    return (None, seen)


# Asked ahead of all else: other things can't always be compared.
def is_sight(thing):
    if not isinstance(thing, tuple) or len(thing) != 2:
        return False
    return is_whole(thing[0]) and (thing[1] is None or is_number(thing[1]))


def is_gone(plan, key, seen):
    way = way_of(plan, key)
    if not isinstance(seen, list) or len(seen) == 0:
        return False
    if not all([is_sight(sight) for sight in seen]):
        return False
    if [sight[0] for sight in seen] != way[:len(seen)]:
        return False
    if not all([is_passed(plan, key, room, held) for room, held in seen[:-1]]):
        return False
    last = seen[-1]
    if gives_way(plan, key, last[0], last[1]):
        return True
    return len(seen) == len(way) and is_passed(plan, key, last[0], last[1])


def most_seen(row):
    best = farthest(row)
    return 1 if best is None else min(row.plan.rooms, best[0] + 2)
