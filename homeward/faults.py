"""Faults: what keeps a thing that is handed in from being a kept housing."""

from homeward.plans import is_number


# None on a line's first room alone: ahead of it lies nothing.
def room_ahead(plan, room):
    if room > 0:
        return room - 1
    return plan.rooms - 1 if plan.wraps else None


# Asked only of a key that isn't at home, so on a line never at room 0: there is a room ahead.
def word_by_room_ahead(plan, rooms, room):
    ahead = room_ahead(plan, room)
    thing = rooms[ahead]
    if thing is None:
        return "empty"
    if is_number(thing) and not plan.goes_ahead(ahead, thing, rooms[room]):
        return "order"
    return None


# Asked room by room from 0 on, up to the first word: so each room of a lesser number holds None or a key.
def word_due(plan, rooms, room):
    key = rooms[room]
    if key is None:
        return None
    if not is_number(key):
        return "key"
    if key in rooms[:room]:
        return "twice"
    far = plan.far(key, room)
    if far is None:
        return "home"
    if far == 0:
        return None
    return word_by_room_ahead(plan, rooms, room)


# On a line the key in room 0 is at home wherever no other word is due, so only a ring can be turned.
def is_turned(plan, rooms):
    return all([key is not None and plan.far(key, room) > 0 for room, key in enumerate(rooms)])


def fault_of(plan, rooms):
    if not isinstance(rooms, list) or len(rooms) != plan.rooms:
        return ("list", 0)
    for room in range(plan.rooms):
        word = word_due(plan, rooms, room)
        if word is not None:
            return (word, room)
    return ("turned", 0) if is_turned(plan, rooms) else None
