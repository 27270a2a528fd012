"""Rows: keys in their rooms, put in by moving others on and taken out by drawing others back."""

from homeward.errors import NotThere, There, Unkept, Wrong
from homeward.faults import fault_of
from homeward.housed import bring_in, house_all, refuse_crowd
from homeward.plans import Plan, is_number


# None on a line's last room alone: behind it lies nothing.
def room_behind(plan, room):
    if room < plan.rooms - 1:
        return room + 1
    return 0 if plan.wraps else None


def is_drawn_from(plan, rooms, room):
    return room is not None and rooms[room] is not None and plan.far(rooms[room], room) > 0


# Each key drawn back comes nearer to its home, so this ends on a full ring, too.
def draw_back(plan, rooms, room):
    came = []
    rooms[room] = None
    behind = room_behind(plan, room)
    while is_drawn_from(plan, rooms, behind):
        came.append((rooms[behind], room))
        rooms[room] = rooms[behind]
        rooms[behind] = None
        room = behind
        behind = room_behind(plan, room)
    return came


class Row:
    def __init__(self, plan, rooms=None):
        if not isinstance(plan, Plan):
            raise Wrong(0)
        if rooms is not None and not isinstance(rooms, list):
            raise Wrong(1)
        held = [None] * plan.rooms if rooms is None else list(rooms)
        fault = fault_of(plan, held)
        if fault is not None:
            raise Unkept(fault[0], fault[1])
        self.plan = plan
        self.held = held
        self.done = []

    def rooms_held(self):
        return list(self.held)

    def keys_held(self):
        return [key for key in self.held if key is not None]

    def many(self):
        return len(self.keys_held())

    def room_of(self, key):
        if not is_number(key):
            raise Wrong(0)
        return self.held.index(key) if key in self.held else None

    def put(self, key):
        if self.room_of(key) is not None:
            raise There(key)
        refuse_crowd(self.plan, self.keys_held() + [key])
        self.done.append(("put", key))
        return bring_in(self.plan, self.held, key)

    def take(self, key):
        room = self.room_of(key)
        if room is None:
            raise NotThere(key)
        self.done.append(("take", key))
        return (room, draw_back(self.plan, self.held, room))

    # Of the same keys there is just one kept housing, so the opposite deed leads back to the very rooms.
    def undo(self):
        if len(self.done) == 0:
            return False
        deed = self.done.pop()
        if deed[0] == "put":
            draw_back(self.plan, self.held, self.room_of(deed[1]))
        else:
            bring_in(self.plan, self.held, deed[1])
        return True

    def deeds(self):
        return list(self.done)

    def copied(self):
        other = Row(self.plan, self.held)
        other.done = self.deeds()
        return other


def row_of_keys(plan, keys):
    return Row(plan, house_all(plan, keys))


def refuse_wrong_row_or_key(row, key):
    if not isinstance(row, Row):
        raise Wrong(0)
    if not is_number(key):
        raise Wrong(1)
