"""Housed keys: the one kept housing of some keys, or a room at which they are a crowd."""

from homeward.errors import NoRoom, Wrong
from homeward.plans import Plan, is_key_list


def refuse_wrong(plan, keys):
    if not isinstance(plan, Plan):
        raise Wrong(0)
    if not is_key_list(keys):
        raise Wrong(1)


def are_crowd(plan, keys, room):
    if plan.wraps:
        return room == 0 and len(keys) > plan.rooms
    return len([key for key in keys if plan.home(key) >= room]) > plan.rooms - room


def is_crowd(plan, keys, room):
    refuse_wrong(plan, keys)
    if not plan.is_room(room):
        raise Wrong(2)
    return are_crowd(plan, keys, room)


def crowded_room(plan, keys):
    for room in range(plan.rooms):
        if are_crowd(plan, keys, room):
            return room
    return None


def refuse_crowd(plan, keys):
    room = crowded_room(plan, keys)
    if room is not None:
        raise NoRoom(room)


# The keys must fit, this one among them: then an empty room is met, on a line ahead of its end.
def bring_in(plan, rooms, key):
    came = []
    room = plan.home(key)
    while rooms[room] is not None:
        held = rooms[room]
        if plan.goes_ahead(room, key, held):
            came.append((key, room))
            rooms[room] = key
            key = held
        room = (room + 1) % plan.rooms
    came.append((key, room))
    rooms[room] = key
    return came


# Of however many keys: those of two rows can be more than a list of keys holds.
def house_all(plan, keys):
    refuse_crowd(plan, keys)
    rooms = [None] * plan.rooms
    for key in keys:
        bring_in(plan, rooms, key)
    return rooms


def housed_rooms(plan, keys):
    refuse_wrong(plan, keys)
    return house_all(plan, keys)


def rooms_passed(plan, key, room):
    return plan.rooms_on(plan.home(key), plan.far(key, room))


def passes_on(plan, keys):
    rooms = housed_rooms(plan, keys)
    passes = [0] * plan.rooms
    for room, key in enumerate(rooms):
        if key is not None:
            for passed in rooms_passed(plan, key, room):
                passes[passed] = passes[passed] + 1
    return passes
